import unittest

from losinglanes.errors import (
    CannotDo, CannotLose, CannotWear, NothingDone, OutOfReach, Refused, UnknownGoal)
from losinglanes.lives import Live
from losinglanes.runs import leads_into
from samples import OTHER_KINDS
from test_lives import NO_INDICES, LiveCalls
from trials import lies_above

SEND, TAKE = (0, ("send", 0, 0), 0), (0, ("take", 0, 0), 1)
EXAMPLE = (1, 2, ((1, (SEND,)), (2, (TAKE,))))
START, BAD = ((0, 0), ((),)), (((0, 1), ((),)),)
GREATER, TWO_LETTERS = (((0, 0), ((1,),)),), (((0, 0), ((0, 0),)),)

# The letters 2 are sent in place 0 alone, which is left for good; they are taken in any place.
ONCE = (1, 3, ((2, ((0, ("rest",), 1), (0, ("send", 0, 2), 0))), (3, ((0, ("take", 0, 1), 2), (0, ("take", 0, 2), 1)))))
TWO_SENT, ONE_SENT, TAKEN, OTHER = (
    (((1, 0), ((2, 2),)),), (((1, 0), ((1,),)),), (((1, 1), ((),)),), (((1, 2), ((),)),))

# A machine goes from place to place, and never back.
STAIRS = (1, 1, ((4, ((0, ("rest",), 1), (1, ("rest",), 2), (2, ("rest",), 3))),))


def on_stair(place):
    return (((place,), ((),)),)


class Goals(LiveCalls):
    def test_open_goals(self):
        live = Live(ONCE, (TWO_SENT, TAKEN, OTHER))
        self.told(live.open_goals(), (0, 1, 2))
        live.do(0, 1)
        live.do(0, 1)
        live.do(0, 0)
        self.told(live.open_goals(), (0, 1, 2))
        live.lose(0, 1)
        self.told(live.open_goals(), (1, 2))
        live.wear(0, 0)
        self.told(live.open_goals(), (2,))
        live.wear(0, 0)
        self.told(live.open_goals(), ())
        live.undo()
        self.told(live.open_goals(), (2,))
        live.back_to(3)
        self.told(live.open_goals(), (0, 1, 2))
        live.do(1, 1)
        self.told(live.open_goals(), (1,))
        live.lose(0, 0)
        self.told(live.open_goals(), (1,))

    def test_goal_of_several_lots_is_open_as_long_as_one_is(self):
        live = Live(ONCE, (TAKEN + OTHER, TWO_SENT + OTHER))
        for step in ((0, 1), (0, 0), (1, 1)):
            self.told(live.open_goals(), (0, 1))
            live.do(*step)
        self.told(live.open_goals(), (0,))

    def test_goal_that_was_never_open(self):
        live = Live(EXAMPLE, (GREATER, BAD, GREATER))
        self.told(live.open_goals(), (1,))
        live.do(0, 0)
        self.told(live.open_goals(), (1,))

    def test_ways(self):
        live = Live(ONCE, (TWO_SENT, TAKEN, OTHER))
        self.way(live, 0, 3)
        self.way(live, 1, 3)
        live.do(0, 1)
        self.way(live, 0, 2)
        self.way(live, 2, 2)
        live.do(0, 0)
        self.told(live.way_to(0), None)
        self.way(live, 1, 1)
        self.way(live, 2, 1)
        live.do(1, 1)
        self.told(live.way_to(1), ())
        self.told(live.way_to(2), None)
        self.told(live.way_to(goal=1), ())

    def way(self, live, goal, steps):
        run = live.way_to(goal)
        self.plain(run)
        self.assertEqual(len(run), steps)
        self.assertIs(leads_into(live.program(), live.lot(), run, live.goals()[goal]), True)

    def test_ways_where_the_limit_is_just_kept(self):
        live = Live(EXAMPLE, (BAD,), tries=3)
        self.told(live.way_to(0), ((((),), 0, 0), (((0,),), 1, 0)))
        live.do(0, 0)
        self.told(live.way_to(0), ((((0,),), 1, 0),))
        self.told(live.twin().way_to(0), ((((0,),), 1, 0),))

    def test_no_such_goal(self):
        live = Live(EXAMPLE, (BAD, TWO_LETTERS))
        live.keep(1)
        for method in ("way_to", "keep", "let_go"):
            for goal in (2, 3) + NO_INDICES[:-len(OTHER_KINDS)]:
                self.raised(UnknownGoal, {"goal": goal}, live, method, goal)
                self.raised(UnknownGoal, {"goal": goal}, live, method, goal=goal)
            for goal in OTHER_KINDS:
                with self.assertRaises(UnknownGoal) as caught:
                    getattr(live, method)(goal)
                self.assertIs(caught.exception.goal, goal)
            self.raised(UnknownGoal, {"goal": 0}, Live(EXAMPLE), method, 0)


class Keeping(LiveCalls):
    def test_keep_and_let_go(self):
        live = Live(STAIRS, tuple([on_stair(place) for place in (3, 1, 2)]))
        self.told(live.kept(), ())
        for goal, kept in ((2, (2,)), (0, (0, 2)), (2, (0, 2)), (1, (0, 1, 2)), (0, (0, 1, 2))):
            self.assertIsNone(live.keep(goal))
            self.told(live.kept(), kept)
        for goal, kept in ((0, (1, 2)), (0, (1, 2)), (2, (1,)), (1, ()), (1, ())):
            self.assertIsNone(live.let_go(goal))
            self.told(live.kept(), kept)
        live.keep(goal=1)
        live.let_go(goal=1)
        self.told(live.kept(), ())
        self.told(live.deeds(), ())
        self.told(len(live), 0)

    def test_keep_of_a_goal_that_is_not_open(self):
        live = Live(STAIRS, tuple([on_stair(place) for place in (0, 1, 3)]))
        live.keep(2)
        live.do(0, 0)
        self.raised(OutOfReach, {"goal": 0}, live, "keep", 0)
        live.keep(1)
        live.let_go(0)
        live.let_go(1)
        live.do(0, 1)
        self.raised(OutOfReach, {"goal": 1}, live, "keep", 1)
        self.told(live.kept(), (2,))
        self.raised(OutOfReach, {"goal": 0}, Live(EXAMPLE, (GREATER,)), "keep", 0)

    def test_steps_that_would_close_a_kept_goal(self):
        live = Live(STAIRS, tuple([on_stair(place) for place in (1, 3)]))
        live.keep(0)
        live.keep(1)
        live.do(0, 0)
        self.raised(OutOfReach, {"goal": 0}, live, "do", 0, 1)
        # Kept goals aside, the step can be done.
        self.told(live.steps(), ((0, 1),))
        live.let_go(0)
        live.do(0, 1)
        live.do(0, 2)
        self.told(live.open_goals(), (1,))

    def test_losses_and_wears_that_would_close_a_kept_goal(self):
        live = Live(ONCE, (TWO_SENT, TAKEN, OTHER))
        for step in ((0, 1), (0, 1), (0, 0)):
            live.do(*step)
        live.keep(0)
        self.raised(OutOfReach, {"goal": 0}, live, "lose", 0, 0)
        self.raised(OutOfReach, {"goal": 0}, live, "lose", 0, 1)
        self.raised(OutOfReach, {"goal": 0}, live, "wear", 0, 1)
        self.raised(OutOfReach, {"goal": 0}, live, "do", 1, 1)
        live.let_go(0)
        live.keep(1)
        live.lose(0, 1)
        self.raised(OutOfReach, {"goal": 1}, live, "lose", 0, 0)
        self.raised(OutOfReach, {"goal": 1}, live, "wear", 0, 0)
        live.let_go(1)
        live.keep(2)
        live.wear(0, 0)
        self.raised(OutOfReach, {"goal": 2}, live, "wear", 0, 0)
        self.raised(OutOfReach, {"goal": 2}, live, "lose", 0, 0)
        live.do(1, 0)

    def test_deeds_that_a_kept_goal_does_not_mind(self):
        live = Live(EXAMPLE, (TWO_LETTERS, BAD))
        live.keep(0)
        live.do(0, 0)
        live.lose(0, 0)
        live.do(0, 0)
        self.raised(OutOfReach, {"goal": 0}, live, "do", 1, 0)
        live.let_go(0)
        live.keep(1)
        live.do(1, 0)

    def test_the_least_kept_goal_is_told(self):
        goals = tuple([on_stair(place) for place in (1, 0, 0)])
        for kept, goal in (((2,), 2), ((1,), 1), ((2, 1), 1), ((1, 2), 1), ((0, 2), 2), ((0, 1, 2), 1), ((0,), None)):
            live = Live(STAIRS, goals)
            for one in kept:
                live.keep(one)
            if goal is None:
                live.do(0, 0)
            else:
                self.raised(OutOfReach, {"goal": goal}, live, "do", 0, 0)

    def test_what_cannot_be_done_is_told_ahead_of_the_goals(self):
        live = Live(ONCE, (TWO_SENT,))
        live.keep(0)
        self.raised(CannotDo, {}, live, "do", 1, 0)
        self.raised(CannotLose, {}, live, "lose", 0, 0)
        self.raised(CannotWear, {}, live, "wear", 0, 0)
        self.raised(OutOfReach, {"goal": 0}, live, "do", 0, 0)

    def test_taking_back_past_deeds_that_were_done_while_goals_were_kept(self):
        live = Live(STAIRS, tuple([on_stair(place) for place in (1, 2, 3)]))
        live.do(0, 0)
        live.keep(2)
        live.keep(1)
        live.do(0, 1)
        live.undo()
        self.told(live.kept(), (1, 2))
        live.undo()
        self.told(live.kept(), (1, 2))
        self.told(live.open_goals(), (0, 1, 2))
        self.raised(NothingDone, {}, live, "undo")
        live.keep(0)
        live.do(0, 0)
        self.raised(OutOfReach, {"goal": 0}, live, "do", 0, 1)
        live.let_go(0)
        live.do(0, 1)
        live.back_to(1)
        self.told(live.kept(), (1, 2))
        live.keep(0)
        live.back_to(0)
        self.told(live.kept(), (0, 1, 2))


class Twins(LiveCalls):
    def made(self):
        live = Live(ONCE, (TWO_SENT, TAKEN, OTHER))
        live.do(0, 1)
        live.do(0, 1)
        live.keep(1)
        return live

    def test_same_in_all(self):
        live = self.made()
        twin = live.twin()
        self.assertIs(type(twin), Live)
        self.assertIsNot(twin, live)
        self.assertEqual(repr(self.state(twin)), repr(self.state(live)))
        self.told(twin.way_to(0), live.way_to(0))
        self.assertTrue(twin == live)
        self.told(self.state(Live(EXAMPLE).twin()), self.state(Live(EXAMPLE)))

    def change(self, live):
        live.do(0, 0)
        live.keep(2)
        live.let_go(1)
        live.wear(0, 0)
        live.lose(0, 1)

    def test_later_calls_of_one_do_not_touch_the_other(self):
        for turn in range(2):
            live = self.made()
            pair = [live, live.twin()]
            one, other = pair[turn], pair[1 - turn]
            before = repr(self.state(other))
            self.change(one)
            self.assertEqual(repr(self.state(other)), before)
            self.told(one.kept(), (2,))
            one.undo()
            one.back_to(1)
            one.back_to(0)
            self.assertEqual(repr(self.state(other)), before)
            one += (("do", 0, 1),)
            self.assertEqual(repr(self.state(other)), before)
            self.change(other)
            other.undo()
            self.told(one.deeds(), (("do", 0, 1),))
            self.told(other.kept(), (2,))

    def test_kept_goals_of_a_twin_are_kept(self):
        twin = self.made().twin()
        twin.do(0, 0)
        twin.lose(0, 1)
        self.raised(OutOfReach, {"goal": 1}, twin, "lose", 0, 0)
        twin.undo()
        twin.undo()
        twin.undo()
        self.told(twin.kept(), (1,))

    def test_twin_of_a_twin(self):
        live = self.made()
        third = live.twin().twin()
        live.undo()
        self.told(third.deeds(), (("do", 0, 1), ("do", 0, 1)))
        self.told(third.open_goals(), (0, 1, 2))


class Equality(LiveCalls):
    def test_equal_live_lots(self):
        one, other = Live(EXAMPLE, (BAD,)), Live(EXAMPLE, (BAD,))
        self.told(one == other, True)
        self.told(one != other, False)
        one.do(0, 0)
        self.told(one == other, False)
        self.told(other == one, False)
        self.told(one != other, True)
        other.do(0, 0)
        self.told(one == other, True)
        self.told(one == one, True)

    def test_kept_goals_and_tries_do_not_count(self):
        one, other = Live(EXAMPLE, (BAD,)), Live(EXAMPLE, (BAD,), tries=3)
        one.keep(0)
        self.told(one == other, True)

    def test_the_deeds_count_and_not_the_lot(self):
        one, other = Live(EXAMPLE), Live(EXAMPLE)
        one.do(0, 0)
        one.lose(0, 0)
        self.told(one.lot() == other.lot(), True)
        self.told(one == other, False)
        one.back_to(0)
        self.told(one == other, True)
        for live, position in ((one, 0), (other, 1)):
            live.do(0, 0)
            live.do(0, 0)
            live.lose(0, position)
        self.told(one.lot() == other.lot(), True)
        self.told(one == other, False)

    def test_other_programs_and_goals(self):
        live = Live(EXAMPLE, (BAD,))
        for other in (Live(EXAMPLE), Live(EXAMPLE, (TWO_LETTERS,)), Live(EXAMPLE, (BAD, BAD)),
                      Live((1, 2, ((1, (SEND,)), (2, ()))), (BAD,)), Live((1, 3, EXAMPLE[2]), (BAD,))):
            self.told(live == other, False)
            self.told(other == live, False)

    def test_other_values(self):
        live = Live(EXAMPLE)
        for value in (None, 0, True, (), EXAMPLE, [], {}, "", START, live.deeds(), [live], (live,)) + OTHER_KINDS:
            self.told(live == value, False)
            self.told(value == live, False)
            self.told(live != value, True)


class Rows(LiveCalls):
    def added(self, live, deeds):
        before = repr(deeds)
        same = live
        live += deeds
        self.assertIs(live, same)
        self.assertEqual(repr(deeds), before)

    def refused(self, live, deeds, index, reason):
        before, same = repr(self.state(live)), live
        with self.assertRaises(Refused) as caught:
            live += deeds
        self.assertIs(type(caught.exception), Refused)
        self.assertEqual(repr(vars(caught.exception)), repr({"index": index, "reason": reason}))
        self.assertEqual(repr(self.state(same)), before)
        self.assertIs(live, same)

    def test_no_deed(self):
        live = Live(EXAMPLE)
        self.added(live, ())
        self.told(live.deeds(), ())

    def test_several_deeds(self):
        live = Live(ONCE, (TWO_SENT, TAKEN, OTHER))
        deeds = (("do", 0, 1), ("do", 0, 1), ("wear", 0, 1), ("lose", 0, 0), ("do", 0, 0), ("do", 1, 0))
        self.added(live, deeds[:1])
        self.told(live.deeds(), deeds[:1])
        self.added(live, deeds[1:])
        self.told(live.deeds(), deeds)
        self.told(live.lot(), ((1, 2), ((),)))
        self.told(live.entries(), ((((),), 0, 1), (((2,),), 0, 1), (((1,),), 0, 0), (((1,),), 1, 0)))
        self.told(live.open_goals(), (2,))
        other = Live(ONCE, (TWO_SENT, TAKEN, OTHER))
        self.added(other, live.deeds())
        self.told(other == live, True)

    def test_200_deeds_and_201(self):
        live = Live(EXAMPLE)
        self.added(live, (("do", 0, 0),) * 200)
        self.added(live, (("lose", 0, 0),) * 200)
        self.told(live.lot(), START)
        self.told(len(live), 400)
        self.refused(live, (("do", 0, 0),) * 201, -1, None)
        self.added(live, (("do", 0, 0),) * 100)
        self.told(len(live), 500)

    def test_first_middle_and_last_deed_refused(self):
        right = (("do", 0, 0), ("do", 0, 0), ("lose", 0, 0), ("do", 1, 0), ("do", 0, 0))
        for at in range(6):
            for wrong, reason in (
                    (("do", 1, 1), "CannotDo"), (("do", 2, 0), "CannotDo"), (("do", True, 0), "CannotDo"),
                    (("lose", 0, 5), "CannotLose"), (("lose", None, 0), "CannotLose"), (("lose", 0, False), "CannotLose"),
                    (("wear", 0, 0), "CannotWear"), (("wear", 1, 0), "CannotWear"), (("wear", 0, []), "CannotWear")):
                for live in (Live(EXAMPLE, (BAD,)), self.done(EXAMPLE, ("do", 0, 0), ("lose", 0, 0), goals=(BAD,))):
                    self.refused(live, right[:at] + (wrong,) + right[at:], at, reason)
                    self.refused(live, right[:at] + (wrong, wrong) + right[at:], at, reason)
                    self.refused(live, right[:at] + (wrong,), at, reason)
                    self.added(live, right)

    def test_deed_refused_for_a_kept_goal(self):
        live = Live(STAIRS, (on_stair(1), on_stair(3)))
        live.keep(0)
        live.keep(1)
        steps = (("do", 0, 0), ("do", 0, 1), ("do", 0, 2))
        self.refused(live, steps, 1, "OutOfReach")
        self.added(live, steps[:1])
        self.refused(live, steps[1:], 0, "OutOfReach")
        self.told(live.kept(), (0, 1))
        live.let_go(0)
        self.added(live, steps[1:])
        self.told(live.lot(), ((3,), ((),)))

    def test_the_first_deed_that_raises_is_told(self):
        live = Live(EXAMPLE)
        self.refused(live, (("do", 0, 0), ("lose", 0, 1), ("wear", 0, 0), ("do", 5, 5)), 1, "CannotLose")
        self.refused(live, (("do", 0, 0), ("wear", 0, 0), ("lose", 0, 1)), 1, "CannotWear")

    def test_values_that_are_no_rows_of_deeds(self):
        live = self.done(EXAMPLE, ("do", 0, 0))
        deed = ("do", 0, 0)
        for value in (
                None, 0, True, "", "do", [deed], [], {}, {deed: 0}, {0: deed}, deed, (deed[:2],), (deed + (0,),),
                (list(deed),), (None,), (deed, ()), (deed, None), (deed, "do"), (("undo", 0, 0),), (("Do", 0, 0),),
                (("do ", 0, 0),), (("", 0, 0),), ((None, 0, 0),), ((0, 0, 0),), (("keep", 0, 0),), ((deed, 0, 0),),
                ((["do"], 0, 0),), live):
            self.refused(live, value, -1, None)
        for value in OTHER_KINDS:
            with self.assertRaises(Refused) as caught:
                live += value
            self.assertEqual((caught.exception.index, caught.exception.reason), (-1, None))
        # The form of all comes ahead of a deed that cannot be done.
        self.refused(live, (("do", 9, 9), ("undo", 0, 0)), -1, None)
        self.refused(live, (("do", 9, 9),) * 201, -1, None)
        self.told(live.deeds(), (deed,))

    def test_entries_after_rows_and_undoing(self):
        live = Live(EXAMPLE)
        self.added(live, (("do", 0, 0), ("do", 0, 0), ("lose", 0, 1)))
        live.undo()
        self.added(live, (("do", 1, 0),))
        self.told(live.entries(), ((((),), 0, 0), (((0,),), 0, 0), (((0, 0),), 1, 0)))
        self.assertTrue(lies_above(live.lot(), ((0, 1), ((0,),))))


if __name__ == "__main__":
    unittest.main()
