import inspect
import unittest

from calls import Calls
from losinglanes import mends
from losinglanes.errors import LimitExceeded
from losinglanes.mends import cheapest_mend, choices, keeps, with_choice
from losinglanes.programs import require_program
from losinglanes.reaching import can_come

SEND, TAKE = (0, ("send", 0, 0), 0), (0, ("take", 0, 0), 1)
PROGRAM = (1, 2, ((1, (SEND,)), (2, (TAKE,))))
BAD = (((0, 1), ((),)),)
NEVER_BAD, CAN_BAD = ("never", BAD), ("can", BAD)
# It can come about in the program, and cannot once the step is dropped that sends.
ONE_LETTER = (((0, 0), ((0,),)),)
# It cannot come about in the program: no step sends the letter.
GREATER = (((0, 0), ((1,),)),)
DROP_SEND, DROP_TAKE = ("drop", 0, SEND, 3), ("drop", 1, TAKE, 2)
PUT_GREATER = ("put", 0, (0, ("send", 0, 1), 0), 4)

# A lot of SENDER needs as many lots taken in as its words have shorter ones, itself too.
SENDER = (3, 1, ((2, ((0, ("send", 0, 0), 0), (0, ("send", 1, 0), 0), (0, ("send", 2, 0), 0))),))


def sent(one, two=0):
    return (((0,), ((0,) * one, (0,) * two, ())),)


class Keeps(Calls):
    def test_functions_stand_in_their_file(self):
        self.stands_in(mends, keeps, "(program, wish, *, tries=400)")
        self.stands_in(mends, choices, "(program, options)")
        self.stands_in(mends, with_choice, "(program, options, choice)")
        self.stands_in(mends, cheapest_mend, "(program, wishes, options, *, tries=400)")

    def test_both_kinds_kept_and_not(self):
        for situation, can in ((BAD, True), (ONE_LETTER, True), (GREATER, False), (GREATER + BAD, True),
                               ((((0, 0), ((),)),), True), ((((0, 1), ((1,),)),), False)):
            self.gives(can, keeps, PROGRAM, ("can", situation))
            self.gives(not can, keeps, PROGRAM, ("never", situation))

    def test_from_the_first_lot(self):
        # From a lot with the letter it could come about.
        self.assertTrue(can_come(PROGRAM, ((0, 0), ((1,),)), GREATER))
        self.gives(True, keeps, PROGRAM, ("never", GREATER))
        program = (1, 1, ((2, ((1, ("rest",), 0),)),))
        self.gives(True, keeps, program, ("never", (((1,), ((),)),)))
        self.gives(True, keeps, program, ("can", (((0,), ((),)),)))

    def test_limit(self):
        for word in ("never", "can"):
            self.gives(word == "can", keeps, PROGRAM, (word, BAD), tries=3)
            self.raises(LimitExceeded, {"limit": 2}, keeps, PROGRAM, (word, BAD), tries=2)
            self.gives(word == "can", keeps, SENDER, (word, sent(19, 19)), tries=400)
            self.raises(LimitExceeded, {"limit": 399}, keeps, SENDER, (word, sent(19, 19)), tries=399)
            self.raises(LimitExceeded, {"limit": 400}, keeps, SENDER, (word, sent(19, 20)))

    def test_tries_is_passed_by_its_name_alone(self):
        with self.assertRaises(TypeError):
            keeps(PROGRAM, CAN_BAD, 400)
        with self.assertRaises(TypeError):
            cheapest_mend(PROGRAM, (CAN_BAD,), (DROP_SEND,), 400)
        self.gives(True, keeps, tries=3, wish=CAN_BAD, program=PROGRAM)


class Choices(Calls):
    def all_are(self, expected, program, options):
        before = repr((program, options))
        self.assertEqual(repr(list(choices(program, options))), repr(expected))
        self.assertEqual(repr((program, options)), before)
        for choice in expected:
            require_program(with_choice(program, options, choice))

    def test_example_of_the_interface(self):
        self.all_are([(), (1,), (0,), (0, 1)], PROGRAM, (DROP_SEND, DROP_TAKE))

    def test_is_a_generator(self):
        self.assertTrue(inspect.isgeneratorfunction(choices))
        found = choices(PROGRAM, (DROP_SEND, DROP_TAKE))
        self.assertTrue(inspect.isgenerator(found))
        self.assertEqual([next(found), next(found)], [(), (1,)])
        self.assertEqual(list(found), [(0,), (0, 1)])
        self.assertEqual(list(found), [])
        self.assertEqual(list(choices(options=(DROP_SEND,), program=PROGRAM)), [(), (0,)])

    def test_one_option(self):
        for option in (DROP_SEND, DROP_TAKE, PUT_GREATER, DROP_SEND[:3] + (0,)):
            self.all_are([(), (0,)], PROGRAM, (option,))

    def with_costs(self, *costs):
        steps = ((0, ("rest",), 0), (0, ("test", 0), 0), (1, ("rest",), 0))
        return tuple([("put", 1, step, cost) for step, cost in zip(steps, costs)])

    def test_by_cost_then_as_tuples(self):
        one, two, three, one_two, one_three, two_three, all_three = (
            (0,), (1,), (2,), (0, 1), (0, 2), (1, 2), (0, 1, 2))
        for costs, expected in (
                ((1, 2, 4), [(), one, two, one_two, three, one_three, two_three, all_three]),
                ((4, 2, 1), [(), three, two, two_three, one, one_three, one_two, all_three]),
                ((1, 1, 1), [(), one, two, three, one_two, one_three, two_three, all_three]),
                ((0, 0, 0), [(), one, one_two, all_three, one_three, two, two_three, three]),
                ((3, 1, 2), [(), two, three, one, two_three, one_two, one_three, all_three]),
                ((2, 1, 3), [(), two, one, one_two, three, two_three, one_three, all_three]),
                ((0, 5, 0), [(), one, one_three, three, one_two, all_three, two, two_three]),
                ((99, 99, 99), [(), one, two, three, one_two, one_three, two_three, all_three])):
            self.all_are(expected, PROGRAM, self.with_costs(*costs))

    def test_two_options_for_the_same_machine_and_step_never_together(self):
        again = DROP_SEND[:3] + (1,)
        self.all_are([(), (1,), (0,)], PROGRAM, (DROP_SEND, again))
        self.all_are([(), (0,), (1,)], PROGRAM, (DROP_SEND, DROP_SEND))
        self.all_are([(), (0,), (1,), (2,)], PROGRAM, (PUT_GREATER,) * 3)
        self.all_are([(), (2,), (1,), (0,), (1, 2), (0, 1)], PROGRAM, (DROP_SEND, DROP_TAKE, again))

    def test_same_step_of_another_machine(self):
        rest = (0, ("rest",), 0)
        options = (("put", 0, rest, 1), ("put", 1, rest, 2))
        self.all_are([(), (0,), (1,), (0, 1)], PROGRAM, options)

    def test_choices_with_which_a_machine_would_have_9_steps(self):
        seven = tuple(sorted([(place, ("send", 0, letter), 0) for place in range(3) for letter in range(3)])[:7])
        program = (1, 3, ((3, seven), (1, ())))
        puts = [("put", 0, (2, ("take", 0, letter), 2), 1) for letter in range(3)]
        drop = ("drop", 0, seven[3], 1)
        self.all_are([(), (0,)], program, (puts[0],))
        self.all_are([(), (0,), (1,)], program, (puts[0], puts[1]))
        self.all_are([(), (0,), (1,), (2,)], program, tuple(puts))
        self.all_are([(), (0,), (1,), (2,), (0, 2), (1, 2), (0, 1, 2)], program, (puts[0], puts[1], drop))
        other = ("put", 1, (0, ("rest",), 0), 1)
        self.all_are([(), (0,), (1,), (2,), (0, 2), (1, 2)], program, (puts[0], puts[1], other))
        six = (1, 3, ((3, seven[:6]), (1, ())))
        self.all_are([(), (0,), (1,), (2,), (0, 1), (0, 2), (1, 2)], six, tuple(puts))
        five = (1, 3, ((3, seven[:5]), (1, ())))
        self.all_are([(), (0,), (1,), (2,), (0, 1), (0, 2), (1, 2), (0, 1, 2)], five, tuple(puts))


class WithChoice(Calls):
    def test_no_option(self):
        self.gives(PROGRAM, with_choice, PROGRAM, (DROP_SEND, PUT_GREATER), ())

    def test_steps_put_in_and_left_out(self):
        options = (DROP_SEND, PUT_GREATER, DROP_TAKE)
        greater = PUT_GREATER[2]
        for choice, first, second in (
                ((0,), (), (TAKE,)), ((1,), (SEND, greater), (TAKE,)), ((2,), (SEND,), ()),
                ((0, 1), (greater,), (TAKE,)), ((0, 2), (), ()), ((1, 2), (SEND, greater), ()),
                ((0, 1, 2), (greater,), ())):
            self.gives((1, 2, ((1, first), (2, second))), with_choice, PROGRAM, options, choice)

    def test_sets_of_steps_ascend(self):
        steps = tuple(sorted([
            (0, ("rest",), 0), (0, ("send", 0, 0), 1), (0, ("send", 0, 1), 0), (0, ("take", 0, 1), 1),
            (0, ("test", 0), 0), (1, ("rest",), 0)]))
        for at, step in enumerate(steps):
            without = steps[:at] + steps[at + 1:]
            self.gives((1, 2, ((1, ()), (2, steps))), with_choice, (1, 2, ((1, ()), (2, without))),
                       (("put", 1, step, 9),), (0,))
            self.gives((1, 2, ((2, without), (1, ()))), with_choice, (1, 2, ((2, steps), (1, ()))),
                       (("drop", 0, step, 9),), (0,))
        options = (("put", 0, steps[3], 0), ("put", 0, steps[0], 0), ("put", 0, steps[5], 0))
        self.gives((1, 2, ((2, steps),)), with_choice, (1, 2, ((2, (steps[1], steps[2], steps[4])),)),
                   options, (0, 1, 2))
        self.gives((1, 2, ((2, (steps[1], steps[2], steps[3], steps[4], steps[5])),)), with_choice,
                   (1, 2, ((2, (steps[1], steps[2], steps[4])),)), options, (0, 2))

    def test_same_step_of_another_machine_stays(self):
        program = (1, 1, ((1, (SEND,)), (1, (SEND,)), (1, (SEND,))))
        for machine in range(3):
            rows = [(1, (SEND,))] * 3
            rows[machine] = (1, ())
            self.gives((1, 1, tuple(rows)), with_choice, program, (("drop", machine, SEND, 1),), (0,))

    def test_arguments_by_their_names(self):
        self.gives((1, 2, ((1, ()), (2, (TAKE,)))),
                   with_choice, choice=(0,), options=(DROP_SEND,), program=PROGRAM)


class CheapestMend(Calls):
    def mends(self, choice, wishes, options, program=PROGRAM, **named):
        self.gives(choice, cheapest_mend, program, wishes, options, **named)

    def test_example_of_the_interface(self):
        self.mends((1,), (NEVER_BAD,), (DROP_SEND, DROP_TAKE))

    def test_program_that_keeps_all_wishes(self):
        for wishes in ((CAN_BAD,), (("never", GREATER),), (CAN_BAD, ("never", GREATER), ("can", ONE_LETTER))):
            self.mends((), wishes, (DROP_SEND,))
            self.mends((), wishes, (DROP_SEND[:3] + (0,), DROP_TAKE[:3] + (0,)))

    def test_the_cheapest_one(self):
        for costs, choice in (((3, 2), (1,)), ((2, 3), (0,)), ((2, 2), (0,)), ((0, 0), (0,)), ((99, 98), (1,))):
            options = (DROP_SEND[:3] + costs[:1], DROP_TAKE[:3] + costs[1:])
            self.mends(choice, (NEVER_BAD,), options)

    def test_the_first_of_several_of_the_same_cost(self):
        self.mends((0,), (NEVER_BAD,), (DROP_TAKE[:3] + (5,), DROP_SEND[:3] + (5,)))
        self.mends((1,), (NEVER_BAD,), (PUT_GREATER, DROP_SEND, DROP_TAKE[:3] + (3,)))
        # As tuples (0, 1) is ahead of (1,).
        self.mends((0, 1), (("never", ONE_LETTER),), (DROP_TAKE[:3] + (0,), DROP_SEND, DROP_TAKE)[:2])
        self.mends((0,), (NEVER_BAD,), (DROP_TAKE[:3] + (0,), DROP_SEND[:3] + (0,)))

    def test_several_options_at_once(self):
        wishes = (("can", GREATER), ("never", BAD))
        self.mends((0, 2), wishes, (PUT_GREATER, DROP_SEND, DROP_TAKE))
        self.mends(None, wishes, (PUT_GREATER, DROP_SEND))
        self.mends(None, wishes, (DROP_SEND, DROP_TAKE))
        self.mends((0, 1), (("can", GREATER), ("never", (((0, 1), ((1, 1),)),))),
                   (PUT_GREATER, DROP_TAKE, DROP_SEND))
        # The letter 1 is sent only on the way to the first machine's other place.
        program = (1, 2, ((2, (SEND,)), (2, (TAKE,))))
        options = (("put", 0, (0, ("send", 0, 1), 1), 9), DROP_TAKE, ("put", 1, (0, ("take", 0, 1), 1), 9))
        wishes = (("can", (((1, 0), ((1,),)),)), NEVER_BAD, ("can", (((1, 1), ((),)),)))
        self.mends((0, 1, 2), wishes, options, program)
        self.mends((0, 1), wishes[:2], options, program)
        self.mends((1,), wishes[1:2], options, program)
        self.mends((0,), wishes[2:], options, program)

    def test_none_mends(self):
        self.mends(None, (("can", GREATER),), (DROP_SEND, DROP_TAKE))
        self.mends(None, (NEVER_BAD, CAN_BAD), (DROP_SEND, DROP_TAKE, PUT_GREATER))
        self.mends(None, (("never", (((0, 0), ((),)),)),), (DROP_SEND, DROP_TAKE))

    def test_all_wishes_count(self):
        self.mends((0,), (NEVER_BAD, ("can", ONE_LETTER)), (DROP_TAKE, DROP_SEND[:3] + (0,)))
        self.mends((1,), (NEVER_BAD, ("never", ONE_LETTER)), (DROP_TAKE, DROP_SEND))
        self.mends((1,), (("never", GREATER), NEVER_BAD, ("never", ONE_LETTER)), (DROP_TAKE, DROP_SEND))
        for at in range(3):
            wishes = [("can", ONE_LETTER), CAN_BAD, ("can", ONE_LETTER)]
            wishes[at] = ("can", GREATER)
            self.mends((0,), tuple(wishes), (PUT_GREATER,))
            self.mends(None, tuple(wishes), (DROP_SEND,))


class Limits(Calls):
    # The second wish needs 16 lots in SENDER, the third 25.
    NEAR, FAR, FURTHER = sent(1), sent(3, 3), sent(4, 4)
    DROP = ("drop", 0, (0, ("send", 1, 0), 0), 1)

    def exceeds(self, limit, *given, **named):
        self.raises(LimitExceeded, {"limit": limit}, cheapest_mend, *given, **named)

    def test_raised_as_soon_as_keeps_raises_it(self):
        wishes = (("can", self.NEAR), ("can", self.FAR), ("can", self.FURTHER))
        self.gives((), cheapest_mend, SENDER, wishes, (self.DROP,), tries=25)
        self.exceeds(24, SENDER, wishes, (self.DROP,), tries=24)
        self.exceeds(15, SENDER, wishes, (self.DROP,), tries=15)
        self.exceeds(1, SENDER, wishes, (self.DROP,), tries=1)
        self.exceeds(24, SENDER, wishes[::-1], (self.DROP,), tries=24)

    def test_not_raised_where_a_wish_before_it_is_not_kept(self):
        for tries in (2, 15, 24, 400):
            wishes = (("never", self.NEAR), ("can", self.FAR), ("can", self.FURTHER))
            self.gives(None, cheapest_mend, SENDER, wishes, (self.DROP,), tries=tries)
        for tries in (2, 15):
            wishes = (("can", self.NEAR), ("can", self.FAR), ("never", self.NEAR))
            self.exceeds(tries, SENDER, wishes, (self.DROP,), tries=tries)
        # With the letter dropped, the second wish needs fewer lots.
        wishes = (("can", self.NEAR), ("never", self.FAR), ("never", self.FURTHER))
        self.gives((0,), cheapest_mend, SENDER, wishes, (self.DROP,), tries=16)
        self.exceeds(15, SENDER, wishes, (self.DROP,), tries=15)

    def test_not_raised_where_a_choice_before_it_mends(self):
        far = (((1,), ((0,) * 3, (0,) * 3, ())),)
        put = ("put", 0, (0, ("send", 0, 0), 1), 0)
        rest = ("put", 0, (0, ("rest",), 1), 1)
        wishes = (("never", far),)
        # With the rest the situation can come about, but it takes 17 lots to know.
        self.gives((), cheapest_mend, SENDER, wishes, (rest,), tries=1)
        self.exceeds(1, SENDER, (("can", far),), (rest,), tries=1)
        self.exceeds(16, SENDER, (("can", far),), (rest,), tries=16)
        self.gives((0,), cheapest_mend, SENDER, (("can", far),), (rest,), tries=17)
        # The cheaper of the two is looked at first.
        self.gives((1,), cheapest_mend, SENDER, (("can", (((1,), ((0,), (), ())),)),), (rest, put), tries=3)

    def test_more_than_400_lots(self):
        self.exceeds(400, SENDER, (("can", sent(19, 20)),), (self.DROP,))
        self.gives((), cheapest_mend, SENDER, (("can", sent(19, 19)),), (self.DROP,))
        self.gives(None, cheapest_mend, SENDER, (("never", self.NEAR), ("can", sent(19, 20))), (self.DROP,))

    def test_arguments_by_their_names(self):
        self.gives((1,), cheapest_mend, tries=400, options=(DROP_SEND, DROP_TAKE), wishes=(NEVER_BAD,),
                   program=PROGRAM)


if __name__ == "__main__":
    unittest.main()
