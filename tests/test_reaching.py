import unittest

from calls import Calls
from losinglanes import reaching
from losinglanes.errors import LimitExceeded
from losinglanes.reaching import can_come, distance, shortest_run
from losinglanes.runs import leads_into, lots_of
from plain import plain_reach
from trials import lies_above, seeded, some_lot, some_program, some_situation

EXAMPLE = (1, 2, ((1, ((0, ("send", 0, 0), 0),)), (2, ((0, ("take", 0, 0), 1),))))
START = ((0, 0), ((),))
BAD = (((0, 1), ((),)),)

SENDER = (3, 1, ((2, ((0, ("send", 0, 0), 0), (0, ("send", 1, 0), 0), (0, ("send", 2, 0), 0))),))
ALL = (can_come, distance, shortest_run)


def sent(one, two=0, three=0):
    """A lot of SENDER; k entries ahead of it are those with k letters less in all."""
    return (0,), ((0,) * one, (0,) * two, (0,) * three)


class Reaches(Calls):
    def reaches(self, program, lot, situation, steps, **named):
        """Checks all three functions; steps is the distance, or None."""
        self.gives(steps is not None, can_come, program, lot, situation, **named)
        self.gives(steps, distance, program, lot, situation, **named)
        if steps is None:
            self.gives(None, shortest_run, program, lot, situation, **named)
        else:
            self.check_run(program, lot, situation, steps, **named)

    def check_run(self, program, lot, situation, steps, **named):
        before = repr((program, lot, situation))
        run = shortest_run(program, lot, situation, **named)
        self.assertEqual(repr((program, lot, situation)), before)
        self.plain(run)
        self.assertEqual(len(run), steps)
        for words, _, _ in run:
            self.assertLessEqual(max(map(len, words)), 60)
        lots = lots_of(program, lot, run)
        self.assertEqual(len(lots), steps + 1)
        self.assertTrue(any(lies_above(lots[-1], other) for other in situation))
        self.assertIs(leads_into(program, lot, run, situation), True)

    def exceeds(self, limit, *given, **named):
        for function in ALL:
            self.raises(LimitExceeded, {"limit": limit}, function, *given, **named)


class Answers(Reaches):
    def test_functions_stand_in_their_file(self):
        for function in ALL:
            self.stands_in(reaching, function, "(program, lot, situation, *, tries=400)")

    def test_example_of_the_interface(self):
        self.gives(2, distance, EXAMPLE, START, BAD)
        self.gives(((((),), 0, 0), (((0,),), 1, 0)), shortest_run, EXAMPLE, START, BAD)
        self.gives(False, can_come, EXAMPLE, START, (((0, 0), ((1,),)),))

    def test_lot_that_is_in_the_situation(self):
        for lot in (BAD[0], ((0, 1), ((0,),)), ((0, 1), ((1, 0) * 30,))):
            self.reaches(EXAMPLE, lot, BAD, 0)
            self.gives((), shortest_run, EXAMPLE, lot, BAD)
            self.reaches(EXAMPLE, lot, BAD, 0, tries=1)
        self.reaches((1, 1, ((1, ()),)), ((0,), ((),)), (((0,), ((),)),), 0)

    def test_distance_of_one_entry(self):
        self.reaches(EXAMPLE, ((0, 0), ((0,),)), BAD, 1)
        self.gives(((((0,),), 1, 0),), shortest_run, EXAMPLE, ((0, 0), ((0,),)), BAD)
        self.reaches(EXAMPLE, ((0, 0), ((1, 1),)), BAD, 1)
        self.reaches((1, 1, ((2, ((0, ("rest",), 1),)),)), ((0,), ((0,),)), (((1,), ((0,),)),), 1)
        self.reaches((1, 1, ((2, ((0, ("test", 0), 1),)),)), ((0,), ((0,),)), (((1,), ((),)),), 1)

    def test_distances_of_several_entries(self):
        for many in range(2, 12):
            self.reaches(EXAMPLE, START, (((0, 0), ((0,) * many,)),), many)
            self.reaches(EXAMPLE, ((0, 0), ((1,),)), (((0, 0), ((0,) * many,)),), many - 1)
        self.reaches(EXAMPLE, START, (((0, 1), ((0, 0, 0),)),), 5)
        self.reaches(EXAMPLE, ((0, 1), ((0,),)), (((0, 1), ((0, 0, 0),)),), 2)

    def test_situation_that_cannot_come_about(self):
        self.reaches(EXAMPLE, START, (((0, 0), ((1,),)),), None)
        self.reaches(EXAMPLE, START, (((0, 1), ((0, 1),)),), None)
        self.reaches(EXAMPLE, ((0, 1), ((0,) * 60,)), (((0, 0), ((),)),), None)
        # A greater letter is there once only, and what is sent behind it is smaller.
        self.reaches(EXAMPLE, ((0, 0), ((1, 0),)), (((0, 0), ((1, 1),)),), None)
        self.reaches(EXAMPLE, ((0, 0), ((0, 1),)), (((0, 0), ((1,),)),), 0)
        self.reaches((1, 1, ((2, ((0, ("test", 0), 1),)),)), ((0,), ((0,),)), (((1,), ((0,),)),), None)

    def test_the_nearest_lot_of_the_situation_counts(self):
        far, near = ((0, 0), ((0,) * 5,)), ((0, 1), ((),))
        self.reaches(EXAMPLE, START, (far,), 5)
        self.reaches(EXAMPLE, START, (far, near), 2)
        self.reaches(EXAMPLE, START, (((0, 0), ((1,),)), near), 2)
        self.reaches(EXAMPLE, START, (((0, 0), ((0,),)), far, near), 1)
        self.reaches(EXAMPLE, START, (((0, 0), ((0, 0, 0),)), ((0, 0), ((1,),)), ((0, 1), ((0,),))), 3)

    def test_situation_with_lots_above_one_another(self):
        situation = (((0, 0), ((0, 0),)), ((0, 0), ((0, 0, 0),)), ((0, 0), ((0, 1, 0),)))
        self.reaches(EXAMPLE, START, situation, 2)
        self.reaches(EXAMPLE, ((0, 0), ((0, 1, 0),)), situation, 0)
        self.reaches(EXAMPLE, ((0, 0), ((0, 1, 0),)), situation, 0, tries=1)
        self.reaches(EXAMPLE, START, situation, 2, tries=3)
        self.exceeds(2, EXAMPLE, START, situation, tries=2)

    def test_situation_of_25_lots(self):
        program = (1, 1, ((2, ((0, ("take", 0, 0), 1),)), (5, ((3, ("send", 0, 0), 4),)), (5, ())))
        situation = tuple([((1, two, three), ((),)) for two in range(5) for three in range(5)])
        self.reaches(program, ((0, 4, 2), ((),)), situation, None)
        self.reaches(program, ((0, 3, 2), ((),)), situation, 2)
        self.reaches(program, ((0, 4, 2), ((0, 0),)), situation, 1)
        self.reaches(program, ((1, 4, 2), ((),)), situation, 0, tries=25)
        self.exceeds(24, program, ((1, 4, 2), ((),)), situation, tries=24)

    def test_lots_with_words_of_60_letters(self):
        long = ((0, 1, 1) * 20,)
        self.reaches(EXAMPLE, ((0, 0), long), (((0, 0), long),), 0)
        self.reaches(EXAMPLE, ((0, 0), long), (((0, 1), ((0,) * 59,)),), 1)
        self.reaches(EXAMPLE, ((0, 1), long), (((0, 0), long),), None)
        self.reaches(EXAMPLE, ((0, 0), ((0,) * 60,)), (((0, 0), long),), None)
        self.reaches(EXAMPLE, ((0, 0), ((),)), (((0, 0), ((0,) * 60,)),), 60)
        self.reaches(SENDER, sent(58, 60, 59), (sent(60, 60, 60),), 3)

    def test_longer_words_than_a_run_may_have(self):
        self.reaches(EXAMPLE, ((0, 0), ((0,) * 100,)), (((0, 0), ((0,) * 60,)),), 0)
        self.reaches(EXAMPLE, ((0, 0), ((1, 0) * 200,)), (((0, 1), ((0,) * 59,)),), 1)

    def test_what_is_sent_may_be_lost_at_once(self):
        program = (1, 3, ((2, ((0, ("send", 0, 1), 1), (1, ("take", 0, 2), 1))),))
        self.reaches(program, ((0,), ((2, 0),)), (((1,), ((2, 0),)),), 1)
        self.reaches(program, ((0,), ((),)), (((1,), ((1,),)),), 1)
        self.reaches(program, ((0,), ((2, 2),)), (((1,), ((1,),)),), 1)
        self.reaches(program, ((0,), ((),)), (((1,), ((2,),)),), None)

    def test_steps_of_several_machines_in_turn(self):
        program = (2, 2, (
            (3, ((0, ("send", 0, 1), 1), (1, ("take", 1, 0), 2))),
            (3, ((0, ("take", 0, 1), 1), (1, ("send", 1, 0), 2)))))
        start = ((0, 0), ((), ()))
        self.reaches(program, start, (((2, 2), ((), ())),), 4)
        self.gives(((((), ()), 0, 0), (((1,), ()), 1, 0), (((), ()), 1, 1), (((), (0,)), 0, 1)),
                   shortest_run, program, start, (((2, 2), ((), ())),))
        self.reaches(program, start, (((2, 1), ((), ())),), None)

    def test_tries_is_passed_by_its_name_alone(self):
        for function in ALL:
            with self.assertRaises(TypeError):
                function(EXAMPLE, START, BAD, 400)

    def test_arguments_by_their_names(self):
        self.gives(True, can_come, tries=3, situation=BAD, lot=START, program=EXAMPLE)
        self.gives(2, distance, situation=BAD, program=EXAMPLE, lot=START)
        self.gives((), shortest_run, situation=BAD, program=EXAMPLE, lot=BAD[0])


class Limits(Reaches):
    def test_lots_taken_in_up_to_the_first_layer_with_a_lot_below(self):
        # Layer k of this situation has k + 1 lots as long as k is at most 3.
        situation = (sent(3, 3),)
        for lot, steps, taken in (
                (sent(3, 3), 0, 1), (sent(2, 3), 1, 3), (sent(3, 1), 2, 6), (sent(0, 3), 3, 10),
                (sent(1, 1), 4, 13), (sent(0, 1), 5, 15), (sent(0, 0), 6, 16)):
            self.reaches(SENDER, lot, situation, steps, tries=taken)
            self.reaches(SENDER, lot, situation, steps, tries=taken + 1)
            self.reaches(SENDER, lot, situation, steps)
            if taken > 1:
                self.exceeds(taken - 1, SENDER, lot, situation, tries=taken - 1)
                self.exceeds(1, SENDER, lot, situation, tries=1)

    def test_lots_taken_in_up_to_the_closed_list_if_there_is_none_below(self):
        situation, lot = (sent(3, 3),), ((1,), ((0,), (0,), (0,)))
        self.reaches(SENDER, lot, situation, None, tries=16)
        self.exceeds(15, SENDER, lot, situation, tries=15)
        self.reaches(EXAMPLE, ((0, 0), ((),)), (((0, 0), ((1,),)),), None, tries=1)
        self.reaches(EXAMPLE, START, BAD, 2, tries=3)
        self.exceeds(2, EXAMPLE, START, BAD, tries=2)

    def test_closed_list_far_beyond_the_limit(self):
        situation = (sent(60, 60, 60),)
        self.reaches(SENDER, sent(60, 60, 58), situation, 2)
        self.reaches(SENDER, sent(60, 60, 58), situation, 2, tries=10)
        self.exceeds(9, SENDER, sent(60, 60, 58), situation, tries=9)
        # Up to the layer 11 there are 364 lots, up to the next one 455.
        self.reaches(SENDER, sent(56, 57, 56), situation, 11)
        self.reaches(SENDER, sent(56, 57, 56), situation, 11, tries=364)
        self.exceeds(363, SENDER, sent(56, 57, 56), situation, tries=363)
        self.exceeds(400, SENDER, sent(56, 56, 56), situation)
        self.exceeds(400, SENDER, ((1,), ((0,) * 60,) * 3), situation)

    def test_400_lots_and_401(self):
        situation = (sent(19, 19),)
        self.reaches(SENDER, sent(0), situation, 38)
        self.reaches(SENDER, ((1,), ((0,) * 60,) * 3), situation, None)
        self.exceeds(399, SENDER, sent(0), situation, tries=399)
        one_more = (sent(19, 19), ((1,), ((0,) * 60,) * 3))
        self.exceeds(400, SENDER, sent(0), one_more)
        self.exceeds(400, SENDER, ((1,), ((), (), ())), one_more)
        self.reaches(SENDER, sent(0, 1), one_more, 37)
        self.reaches(SENDER, ((1,), ((0,) * 60,) * 3), one_more, 0)

    def test_one_try(self):
        self.reaches(EXAMPLE, BAD[0], BAD, 0, tries=1)
        self.exceeds(1, EXAMPLE, START, BAD, tries=1)
        self.exceeds(1, EXAMPLE, ((0, 1), ((0,),)), (((0, 0), ((0,),)), ((0, 1), ((),))), tries=1)
        self.reaches((1, 1, ((1, ()),)), ((0,), ((),)), (((0,), ((0,),)),), None, tries=1)

    def test_lots_that_no_later_layer_has_count(self):
        # The lot with a letter belongs to the layer 1 alone.
        self.reaches(EXAMPLE, START, BAD, 2, tries=3)
        self.exceeds(2, EXAMPLE, START, BAD, tries=2)

    def test_word_of_61_letters_ahead_of_the_layer_looked_for(self):
        rows = ((0, ("take", 0, 0), 1), (1, ("take", 0, 0), 2), (3, ("rest",), 0))
        program, situation = (1, 1, ((4, rows),)), (((2,), ((0,) * 59,)),)
        self.reaches(program, ((2,), ((0,) * 60,)), situation, 0)
        self.reaches(program, ((1,), ((0,) * 60,)), situation, 1)
        self.exceeds(400, program, ((0,), ((0,) * 60,)), situation)
        self.exceeds(400, program, ((3,), ((0,) * 60,)), situation)
        self.exceeds(7, program, ((0,), ((0,) * 61,)), situation, tries=7)
        self.exceeds(400, program, ((3,), ((0,) * 61,)), situation)

    def test_word_of_61_letters_behind_the_layer_looked_for(self):
        rows = ((0, ("take", 0, 0), 0), (1, ("rest",), 0))
        program, situation = (1, 1, ((2, rows),)), (((0,), ((0,) * 60,)),)
        # The longer word is above one of the layer, so it is never taken in.
        self.reaches(program, ((1,), ((0,) * 60,)), situation, 1, tries=2)
        self.reaches(program, ((1,), ((0,) * 59,)), situation, None, tries=2)
        rows = ((0, ("take", 0, 0), 1), (1, ("rest",), 2), (2, ("rest",), 3), (4, ("rest",), 2))
        program, situation = (1, 1, ((5, rows),)), (((3,), ((0,) * 60,)),)
        self.reaches(program, ((3,), ((0,) * 60,)), situation, 0)
        self.reaches(program, ((2,), ((0,) * 60,)), situation, 1)
        self.reaches(program, ((4,), ((0,) * 60,)), situation, 2)
        self.reaches(program, ((1,), ((0,) * 60,)), situation, 2)
        self.exceeds(400, program, ((4,), ((0,) * 59,)), situation)

    def test_word_of_61_letters_in_the_layer_looked_for(self):
        rows = ((0, ("take", 0, 0), 1), (2, ("rest",), 1))
        program, situation = (1, 1, ((3, rows),)), (((1,), ((0,) * 60,)),)
        self.exceeds(400, program, ((2,), ((0,) * 60,)), situation)
        self.exceeds(400, program, ((0,), ((0,) * 61,)), situation)
        self.reaches((1, 1, ((3, rows[1:]),)), ((2,), ((0,) * 60,)), situation, 1)
        shorter = (((1,), ((0,) * 59,)),)
        self.reaches(program, ((2,), ((0,) * 60,)), shorter, 1, tries=3)
        self.reaches(program, ((0,), ((0,) * 60,)), shorter, 1, tries=3)

    def test_refused_call_changes_nothing(self):
        self.exceeds(2, EXAMPLE, START, BAD, tries=2)
        self.reaches(EXAMPLE, START, BAD, 2, tries=3)


class Many(Reaches):
    def test_many_programs_against_the_document(self):
        shapes = ((1, 1, 2, 3), (1, 2, 2, 3), (2, 2, 1, 4), (2, 3, 2, 3), (3, 3, 3, 5), (1, 3, 3, 2))
        told = set()
        for seed in range(240):
            random = seeded(seed + 4000)
            lanes, letters, machines, places = shapes[seed % len(shapes)]
            program = some_program(random, lanes, letters, machines, places, 8)
            situation = some_situation(random, program, 3, 3)
            for _ in range(3):
                told.add(self.check(program, some_lot(random, program, 4), situation))
        # The distances are not all the same, and both other answers are among them.
        self.assertTrue({0, 1, 2, 3, 4, None, False} <= told)

    def check(self, program, lot, situation):
        steps, taken = plain_reach(program, lot, situation)
        if steps is False:
            self.exceeds(60, program, lot, situation, tries=60)
            self.exceeds(1, program, lot, situation, tries=1)
            return steps
        self.reaches(program, lot, situation, steps)
        self.reaches(program, lot, situation, steps, tries=taken)
        if taken > 1:
            self.exceeds(taken - 1, program, lot, situation, tries=taken - 1)
        return steps


if __name__ == "__main__":
    unittest.main()
