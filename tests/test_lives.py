import inspect
import unittest

from calls import Calls
from losinglanes import lives
from losinglanes.errors import (
    CannotDo, CannotLose, CannotWear, InvalidGoals, InvalidProgram, InvalidSituation, LimitExceeded, NothingDone)
from losinglanes.lives import Live
from losinglanes.runs import lots_of
from samples import OTHER_KINDS
from trials import lies_above

SEND, TAKE = (0, ("send", 0, 0), 0), (0, ("take", 0, 0), 1)
EXAMPLE = (1, 2, ((1, (SEND,)), (2, (TAKE,))))
START, BAD = ((0, 0), ((),)), (((0, 1), ((),)),)
TWO_LETTERS = (((0, 0), ((0, 0),)),)

# Two lanes; the first machine sends, the second takes, tests and rests.
PROGRAM = (2, 3, (
    (1, ((0, ("send", 0, 0), 0), (0, ("send", 0, 2), 0), (0, ("send", 1, 1), 0))),
    (3, ((0, ("take", 0, 2), 1), (0, ("test", 1), 2), (1, ("rest",), 0), (2, ("take", 0, 0), 0)))))

# No integer, and none that is the index of a machine, a step, a lane, a position, a goal or a deed.
NO_INDICES = (-1, True, False, None, "0", (0,), [0], {}, {0: 0}, 10 ** 30, -10 ** 30) + OTHER_KINDS

METHODS = {
    "__init__": "(self, program, goals=(), *, tries=400)", "__len__": "(self)", "__eq__": "(self, other)",
    "__iadd__": "(self, other)", "do": "(self, machine, index)", "lose": "(self, lane, position)",
    "wear": "(self, lane, position)", "program": "(self)", "goals": "(self)", "lot": "(self)", "deeds": "(self)",
    "steps": "(self)", "is_in": "(self, situation)", "entries": "(self)", "open_goals": "(self)",
    "way_to": "(self, goal)", "keep": "(self, goal)", "let_go": "(self, goal)", "kept": "(self)", "undo": "(self)",
    "back_to": "(self, count)", "twin": "(self)"}


class LiveCalls(Calls):
    def state(self, live):
        """All that a live lot tells but the ways to its goals."""
        return (live.program(), live.goals(), live.lot(), live.deeds(), live.steps(), live.entries(),
                live.open_goals(), live.kept(), len(live))

    def raised(self, error, parts, live, method, *given, **named):
        """The call raises the error and changes nothing."""
        before = repr(self.state(live))
        with self.assertRaises(error) as caught:
            getattr(live, method)(*given, **named)
        self.assertIs(type(caught.exception), error)
        self.assertEqual(repr(vars(caught.exception)), repr(parts))
        self.assertEqual(repr(self.state(live)), before)

    def done(self, program, *deeds, goals=()):
        live = Live(program, goals)
        for word, one, other in deeds:
            self.assertIsNone(getattr(live, word)(one, other))
        return live

    def tells(self, live, lot, steps, deeds):
        self.told(live.lot(), lot)
        self.told(live.steps(), steps)
        self.told(live.deeds(), deeds)
        self.told(len(live), len(deeds))


class Making(LiveCalls):
    def test_class_stands_in_its_file_with_all_its_methods(self):
        self.assertEqual(Live.__module__, lives.__name__)
        self.assertEqual(Live.__bases__, (object,))
        for name, signature in METHODS.items():
            self.assertIn(name, vars(Live))
            self.assertEqual(str(inspect.signature(vars(Live)[name])), signature, name)

    def test_example_of_the_interface(self):
        live = Live(EXAMPLE, (TWO_LETTERS,))
        live.do(0, 0)
        live.do(0, 0)
        live.lose(0, 1)
        self.told((live.lot(), live.steps(), live.entries(), live.open_goals(), live.way_to(0)), (
            ((0, 0), ((0,),)), ((0, 0), (1, 0)), ((((),), 0, 0), (((0,),), 0, 0)), (0,), ((((0,),), 0, 0),)))

    def test_new_one(self):
        live = Live(EXAMPLE)
        self.tells(live, START, ((0, 0),), ())
        self.told(live.program(), EXAMPLE)
        self.told(live.goals(), ())
        self.told(live.entries(), ())
        self.told(live.open_goals(), ())
        self.told(live.kept(), ())
        live = Live(tries=400, goals=(BAD, TWO_LETTERS), program=EXAMPLE)
        self.told(live.goals(), (BAD, TWO_LETTERS))
        self.told(live.open_goals(), (0, 1))
        self.told(live.kept(), ())
        self.told(Live(PROGRAM).lot(), ((0, 0), ((), ())))

    def refused(self, error, parts, *given, **named):
        self.raises(error, parts, Live, *given, **named)

    def test_values_that_are_no_program(self):
        for program, part in (
                (None, None), ((), None), (list(EXAMPLE), None), ((True,) + EXAMPLE[1:], "lanes"),
                ((1, 4, EXAMPLE[2]), "letters"), ((1, 2, ()), "machines"), ((1, 2, ((6, ()),)), ("places", 0)),
                ((1, 2, ((1, ()), (1, (TAKE,)))), ("steps", 1))):
            self.refused(InvalidProgram, {"part": part}, program)
            self.refused(InvalidProgram, {"part": part}, program, None, tries=1)
        for value in OTHER_KINDS:
            with self.assertRaises(InvalidProgram):
                Live(value)

    def test_values_that_are_no_goals(self):
        for goals in (None, 0, True, "", list((BAD,)), {0: BAD}, {}, [], (BAD,) * 4, (None,) * 4):
            self.refused(InvalidGoals, {"index": None}, EXAMPLE, goals)
            self.refused(InvalidGoals, {"index": None}, EXAMPLE, goals, tries=1)
        for value in OTHER_KINDS:
            if type(value) is not tuple or len(value) > 3:
                with self.assertRaises(InvalidGoals):
                    Live(EXAMPLE, value)

    def test_goals_that_are_no_situations(self):
        for goal in (
                None, (), START, list(BAD), BAD * 2, (((0, 2), ((),)),), (((0, 1), ((2,),)),), (((0, 1), ((True,),)),),
                (((0, 1), ((),)), ((0, 0), ((),))), (((0, 0), ((0,) * 61,)),), BAD + (None,),
                tuple([((0, 0), ((0,) * many,)) for many in range(4)])):
            for at in range(3):
                goals = [BAD, TWO_LETTERS, BAD]
                goals[at] = goal
                self.refused(InvalidGoals, {"index": at}, EXAMPLE, tuple(goals))
                # What is wrong ahead of the limit is told first.
                self.refused(InvalidGoals, {"index": at}, EXAMPLE, tuple(goals), tries=1)
            self.refused(InvalidGoals, {"index": 0}, EXAMPLE, (goal, None, goal))
            self.refused(InvalidGoals, {"index": 1}, EXAMPLE, (BAD, goal, None))
        # A situation is no tuple of goals.
        self.refused(InvalidGoals, {"index": 0}, EXAMPLE, BAD)

    def test_goals_with_words_of_60_letters_and_equal_goals(self):
        long = (((0, 0), ((0,) * 60,)),)
        self.told(Live(EXAMPLE, (long, long, long)).open_goals(), (0, 1, 2))
        self.told(Live(EXAMPLE, (long + (((0, 1), ((),)),),)).open_goals(), (0,))

    def test_limit(self):
        # The closed lists of the goals need 1, 3 and 3 lots.
        few, many = (((0, 0), ((1,),)),), BAD
        for goals in ((many,), (few, many), (many, few), (few, few, many)):
            self.told(len(Live(EXAMPLE, goals, tries=3)), 0)
            for tries in (1, 2):
                self.refused(LimitExceeded, {"limit": tries}, EXAMPLE, goals, tries=tries)
        self.told(Live(EXAMPLE, (few, few), tries=1).open_goals(), ())
        self.told(Live(EXAMPLE, (), tries=1).lot(), START)

    def test_limit_is_that_of_the_closed_list(self):
        # The goal is open at once, but its closed list needs more lots.
        program = (1, 1, ((2, ((0, ("send", 0, 0), 0),)),))
        goal = (((0,), ((),)), ((1,), ((),)))
        self.told(Live(program, (goal,), tries=2).open_goals(), (0,))
        self.refused(LimitExceeded, {"limit": 1}, program, (goal,), tries=1)
        sender = (3, 1, ((1, ((0, ("send", 0, 0), 0), (0, ("send", 1, 0), 0))),))
        self.told(Live(sender, ((((0,), ((0,) * 19, (0,) * 19, ())),),)).open_goals(), (0,))
        self.refused(LimitExceeded, {"limit": 400}, sender, ((((0,), ((0,) * 19, (0,) * 20, ())),),))
        chain = (1, 1, ((3, ((0, ("rest",), 1), (2, ("take", 0, 0), 0))),))
        self.refused(LimitExceeded, {"limit": 400}, chain, ((((0,), ((0,) * 60,)),),))

    def test_tries_is_passed_by_its_name_alone(self):
        with self.assertRaises(TypeError):
            Live(EXAMPLE, (), 400)


class Deeds(LiveCalls):
    def test_steps(self):
        live = Live(PROGRAM)
        self.tells(live, ((0, 0), ((), ())), ((0, 0), (0, 1), (0, 2), (1, 1)), ())
        self.assertIsNone(live.do(0, 1))
        self.tells(live, ((0, 0), ((2,), ())), ((0, 0), (0, 1), (0, 2), (1, 0), (1, 1)), (("do", 0, 1),))
        self.assertIsNone(live.do(0, 0))
        self.assertIsNone(live.do(1, 0))
        self.tells(live, ((0, 1), ((0,), ())), ((0, 0), (0, 1), (0, 2), (1, 2)),
                   (("do", 0, 1), ("do", 0, 0), ("do", 1, 0)))
        live.do(index=2, machine=1)
        live.do(machine=1, index=1)
        live.do(1, 3)
        live.do(0, 2)
        self.tells(live, ((0, 0), ((), (1,))), ((0, 0), (0, 1), (0, 2)),
                   (("do", 0, 1), ("do", 0, 0), ("do", 1, 0), ("do", 1, 2), ("do", 1, 1), ("do", 1, 3), ("do", 0, 2)))

    def test_steps_that_cannot_be_done(self):
        live = Live(PROGRAM)
        for machine, index in ((1, 0), (1, 2), (1, 3)):
            self.raised(CannotDo, {}, live, "do", machine, index)
        live.do(0, 0)
        live.do(0, 1)
        live.do(0, 2)
        # The greater letter is behind a lesser one, and it is not lost by itself; the lane is not empty.
        for machine, index in ((1, 0), (1, 1), (1, 2), (1, 3)):
            self.raised(CannotDo, {}, live, "do", machine, index)
        live.lose(0, 0)
        live.do(1, 0)
        self.raised(CannotDo, {}, live, "do", 1, 0)

    def test_a_letter_is_not_taken_as_a_lesser_one(self):
        live = self.done(PROGRAM, ("do", 1, 1), ("do", 0, 1))
        self.raised(CannotDo, {}, live, "do", 1, 3)
        live.wear(0, 0)
        self.raised(CannotDo, {}, live, "do", 1, 3)
        live.wear(0, 0)
        live.do(1, 3)
        self.tells(live, ((0, 0), ((), ())), ((0, 0), (0, 1), (0, 2), (1, 1)), live.deeds())

    def test_no_such_machine_or_step(self):
        live = self.done(PROGRAM, ("do", 0, 1))
        for machine in (2, 3) + NO_INDICES:
            self.raised(CannotDo, {}, live, "do", machine, 0)
            self.raised(CannotDo, {}, live, "do", machine, machine)
        for index in NO_INDICES:
            self.raised(CannotDo, {}, live, "do", 0, index)
        self.raised(CannotDo, {}, live, "do", 0, 3)
        self.raised(CannotDo, {}, live, "do", 1, 4)
        self.raised(CannotDo, {}, Live((1, 1, ((1, ()),))), "do", 0, 0)

    def word(self, *letters):
        """A live lot with this word in the lane 0, and (1, 1) in the lane 1."""
        steps = tuple([(0, ("send", 0, letter), 0) for letter in range(3)]) + ((0, ("send", 1, 1), 0),)
        live = Live((2, 3, ((1, steps),)))
        for letter in letters + (3, 3):
            live.do(0, letter)
        self.told(live.lot(), ((0,), (letters, (1, 1))))
        return live

    def test_losses(self):
        for position, left in enumerate(((1, 2, 1), (0, 2, 1), (0, 1, 1), (0, 1, 2))):
            live = self.word(0, 1, 2, 1)
            self.assertIsNone(live.lose(0, position))
            self.told(live.lot(), ((0,), (left, (1, 1))))
            self.told(live.deeds()[-1], ("lose", 0, position))
            self.told(len(live), 7)
        live = self.word(2, 0)
        live.lose(position=1, lane=0)
        live.lose(1, 0)
        live.lose(0, 0)
        live.lose(1, 0)
        self.told(live.lot(), ((0,), ((), ())))
        for lane in (0, 1):
            self.raised(CannotLose, {}, live, "lose", lane, 0)

    def test_losses_that_cannot_be(self):
        live = self.word(0, 2)
        for position in (2, 3, 60) + NO_INDICES:
            self.raised(CannotLose, {}, live, "lose", 0, position)
            self.raised(CannotLose, {}, live, "lose", 1, position)
        for lane in (2, 3) + NO_INDICES:
            self.raised(CannotLose, {}, live, "lose", lane, 0)
            self.raised(CannotLose, {}, live, "lose", lane, lane)

    def test_wears(self):
        for position, worn in ((0, (1, 1, 2)), (2, (2, 1, 1)), (1, (2, 0, 2))):
            live = self.word(2, 1, 2)
            self.assertIsNone(live.wear(0, position))
            self.told(live.lot(), ((0,), (worn, (1, 1))))
            self.told(live.deeds()[-1], ("wear", 0, position))
        live = self.word(2)
        live.wear(position=0, lane=0)
        live.wear(0, 0)
        live.wear(1, 1)
        self.told(live.lot(), ((0,), ((0,), (1, 0))))
        self.raised(CannotWear, {}, live, "wear", 0, 0)
        self.raised(CannotWear, {}, live, "wear", 1, 1)
        live.wear(1, 0)
        self.raised(CannotWear, {}, live, "wear", 1, 0)

    def test_wears_that_cannot_be(self):
        live = self.word(0, 2)
        self.raised(CannotWear, {}, live, "wear", 0, 0)
        for position in (2, 3, 60) + NO_INDICES:
            self.raised(CannotWear, {}, live, "wear", 0, position)
            self.raised(CannotWear, {}, live, "wear", 1, position)
        for lane in (2, 3) + NO_INDICES:
            self.raised(CannotWear, {}, live, "wear", lane, 1)
            self.raised(CannotWear, {}, live, "wear", lane, lane)

    def test_500_deeds(self):
        live = Live(EXAMPLE, (BAD,))
        for _ in range(497):
            live.do(0, 0)
        self.told(live.lot(), ((0, 0), ((0,) * 497,)))
        live.lose(0, 496)
        live.lose(0, 0)
        live.do(1, 0)
        self.tells(live, ((0, 1), ((0,) * 494,)), ((0, 0),),
                   (("do", 0, 0),) * 497 + (("lose", 0, 496), ("lose", 0, 0), ("do", 1, 0)))
        self.told(live.open_goals(), (0,))
        self.told(live.way_to(0), ())
        self.told(len(live.entries()), 498)
        lots = lots_of(EXAMPLE, START, live.entries())
        self.assertTrue(lies_above(lots[-1], live.lot()))
        live.do(0, 0)
        self.told(len(live), 501)
        live.back_to(0)
        self.tells(live, START, ((0, 0),), ())


class Telling(LiveCalls):
    def test_is_in(self):
        live = self.done(EXAMPLE, ("do", 0, 0), ("do", 0, 0))
        for situation, told in (
                ((((0, 0), ((),)),), True), ((((0, 0), ((0, 0),)),), True), ((((0, 0), ((0, 0, 0),)),), False),
                ((((0, 0), ((1,),)),), False), (BAD, False), ((((0, 0), ((0,),)),) + BAD, True),
                ((((0, 0), ((1,),)),) + BAD, False)):
            self.told(live.is_in(situation), told)
            self.told(live.is_in(situation=situation), told)

    def test_is_in_of_what_is_no_situation(self):
        live = Live(EXAMPLE, (BAD,))
        four = tuple([((0, 0), ((0,) * many,)) for many in range(4)])
        for value, index in (
                (None, None), ((), None), (list(BAD), None), (four, None), (0, None), (True, None), (START, 0),
                ((None,), 0), (BAD + BAD, 1), (BAD + (None,), 1), ((((0, 0), ((0,) * 61,)),), 0),
                ((((0, True), ((),)),), 0), ((four[0], four[2], four[1]), 2)):
            self.raised(InvalidSituation, {"index": index}, live, "is_in", value)
        for value in OTHER_KINDS:
            with self.assertRaises(InvalidSituation):
                live.is_in(value)

    def test_entries_are_a_run_to_a_lot_above_that_of_now(self):
        live = Live(PROGRAM)
        self.told(live.entries(), ())
        live.do(0, 1)
        live.do(0, 2)
        self.told(live.entries(), ((((), ()), 0, 1), (((2,), ()), 0, 2)))
        live.wear(0, 0)
        live.lose(1, 0)
        self.told(live.entries(), ((((), ()), 0, 1), (((2,), ()), 0, 2)))
        live.do(0, 0)
        live.do(1, 1)
        entries = ((((), ()), 0, 1), (((2,), ()), 0, 2), (((1,), ()), 0, 0), (((1, 0), ()), 1, 1))
        self.told(live.entries(), entries)
        live.lose(0, 0)
        self.told(live.entries(), entries)
        live.do(1, 3)
        self.told(live.entries(), entries + ((((0,), ()), 1, 3),))
        lots = lots_of(PROGRAM, ((0, 0), ((), ())), live.entries())
        self.told(lots[-1], live.lot())

    def test_words_of_more_than_60_letters(self):
        live = Live(EXAMPLE, ((((0, 0), ((0,) * 60,)),), (((0, 1), ((0,) * 59,)),), (((0, 0), ((1,),)),)))
        for _ in range(100):
            live.do(0, 0)
        self.told(live.lot(), ((0, 0), ((0,) * 100,)))
        self.told(live.is_in((((0, 0), ((0,) * 60,)),)), True)
        self.told(live.open_goals(), (0, 1))
        self.told(live.way_to(0), ())
        self.told(live.way_to(1), ((((0,) * 60,), 1, 0),))
        self.told(live.way_to(2), None)
        self.told(live.entries()[-1], (((0,) * 99,), 0, 0))
        self.told(lots_of(EXAMPLE, START, live.entries())[-1], live.lot())

    def test_what_was_told_stays(self):
        live = self.done(EXAMPLE, ("do", 0, 0))
        told = self.state(live)
        before = repr(told)
        live.do(0, 0)
        live.undo()
        live.undo()
        self.assertEqual(repr(told), before)


class Undoing(LiveCalls):
    DEEDS = (("do", 0, 1), ("do", 0, 2), ("wear", 0, 0), ("lose", 1, 0), ("do", 0, 0), ("lose", 0, 0), ("do", 1, 1))

    def states(self):
        live, states = Live(PROGRAM), []
        for word, one, other in self.DEEDS:
            states.append(repr(self.state(live)))
            getattr(live, word)(one, other)
        return states + [repr(self.state(live))]

    def test_undo(self):
        live, states = self.done(PROGRAM, *self.DEEDS), self.states()
        for left in reversed(range(len(self.DEEDS))):
            self.assertIsNone(live.undo())
            self.assertEqual(repr(self.state(live)), states[left])
        self.raised(NothingDone, {}, live, "undo")
        live.do(0, 0)
        live.undo()
        self.raised(NothingDone, {}, live, "undo")

    def test_back_to(self):
        states = self.states()
        for count in range(len(self.DEEDS) + 1):
            live = self.done(PROGRAM, *self.DEEDS)
            self.assertIsNone(live.back_to(count))
            self.assertEqual(repr(self.state(live)), states[count])
            live.back_to(count=count)
            self.assertEqual(repr(self.state(live)), states[count])
            live.back_to(0)
            self.assertEqual(repr(self.state(live)), states[0])

    def test_back_to_what_is_no_number_of_deeds(self):
        live = self.done(PROGRAM, *self.DEEDS)
        for count in (8, 9, 500) + NO_INDICES:
            self.raised(NothingDone, {}, live, "back_to", count)
        live.back_to(0)
        for count in (1, 2) + NO_INDICES:
            self.raised(NothingDone, {}, live, "back_to", count)

    def test_other_deeds_than_those_taken_back(self):
        live = self.done(PROGRAM, *self.DEEDS)
        live.back_to(2)
        live.do(1, 0)
        self.tells(live, ((0, 1), ((), (1,))), ((0, 0), (0, 1), (0, 2), (1, 2)), self.DEEDS[:2] + (("do", 1, 0),))
        self.told(live.entries(), ((((), ()), 0, 1), (((2,), ()), 0, 2), (((2,), (1,)), 1, 0)))


if __name__ == "__main__":
    unittest.main()
