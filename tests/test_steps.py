import unittest

from calls import Calls
from losinglanes import steps
from losinglanes.errors import CannotDo
from losinglanes.steps import can_do, done, is_above, steps_of

EXAMPLE = (1, 2, ((1, ((0, ("send", 0, 0), 0),)), (2, ((0, ("take", 0, 0), 1),))))


def one_step(action, start=0, end=1):
    """A program of three lanes and three machines; the second one has this step alone."""
    return 3, 3, ((2, ()), (3, ((start, action, end),)), (2, ((0, ("rest",), 1),)))


class IsAbove(Calls):
    def test_functions_stand_in_their_file(self):
        self.stands_in(steps, is_above, "(lot, other)")
        self.stands_in(steps, can_do, "(program, lot, machine, index)")
        self.stands_in(steps, done, "(program, lot, machine, index)")
        self.stands_in(steps, steps_of, "(program, lot)")

    def test_example_of_the_interface(self):
        lot = ((0, 0), ((1, 0),))
        told = (done(EXAMPLE, lot, 0, 0), steps_of(EXAMPLE, lot), is_above(lot, ((0, 0), ((0, 0),))))
        self.told(told, (((0, 0), ((1, 0, 0),)), ((0, 0),), True))

    def test_equal_lots(self):
        for lot in (((0,), ((),)), ((1, 0), ((0, 1), (2,))), ((0, 1, 2), ((), (1,), (0, 0)))):
            self.gives(True, is_above, lot, (tuple(list(lot[0])), tuple(list(lot[1]))))

    def test_other_places(self):
        self.gives(False, is_above, ((0,), ((),)), ((1,), ((),)))
        self.gives(False, is_above, ((1,), ((0, 0),)), ((0,), ((0,),)))
        for places in ((1, 0, 0), (0, 1, 0), (0, 0, 1), (1, 1, 1)):
            self.gives(False, is_above, (places, ((0,),)), ((0, 0, 0), ((0,),)))
            self.gives(False, is_above, ((0, 0, 0), ((0,),)), (places, ((),)))

    def test_words_in_one_lane(self):
        for word, other, above in (
                ((0,), (), True), ((), (0,), False), ((1,), (0,), True), ((0,), (1,), False),
                ((0, 1, 0), (0, 0), True), ((0, 0), (0, 1, 0), False), ((1, 0), (0, 1), False),
                ((2, 0, 1), (1, 1), True), ((2, 0, 1), (1, 2), False), ((0, 0), (0, 0, 0), False)):
            self.gives(above, is_above, ((2,), (word,)), ((2,), (other,)))

    def test_each_lane_counts(self):
        for at in range(3):
            for wrong in ((1,), (0, 0)):
                words = [(0,), (0,), (0,)]
                words[at] = wrong
                self.gives(False, is_above, ((0,), ((0,),) * 3), ((0,), tuple(words)))
                self.gives(True, is_above, ((0,), tuple(words)), ((0,), ((0,),) * 3))
        self.gives(False, is_above, ((0,), ((1,), (0,))), ((0,), ((0,), (1,))))

    def test_words_of_600_letters(self):
        long = (0, 1, 2) * 200
        self.gives(True, is_above, ((0,), (long, long)), ((0,), (long, long)))
        self.gives(True, is_above, ((0,), (long,)), ((0,), ((0,) * 600,)))
        self.gives(True, is_above, ((0,), (long,)), ((0,), ((2,) * 200,)))
        self.gives(False, is_above, ((0,), (long,)), ((0,), ((2,) * 201,)))
        self.gives(False, is_above, ((0,), (long, (0,) * 599)), ((0,), (long, (0,) * 600)))


class Done(Calls):
    def doable(self, program, lot, machine, index, after):
        self.gives(True, can_do, program, lot, machine, index)
        self.gives(after, done, program, lot, machine, index)

    def refused(self, program, lot, machine, index):
        self.gives(False, can_do, program, lot, machine, index)
        self.raises(CannotDo, {}, done, program, lot, machine, index)

    def test_send_puts_the_letter_at_the_end_of_its_lane(self):
        for lane in range(3):
            for letter in range(3):
                for word in ((), (0,), (2, 1), (1, 2, 0)):
                    before, after = [(1, 0), (), (2, 2)], [(1, 0), (), (2, 2)]
                    before[lane], after[lane] = word, word + (letter,)
                    self.doable(one_step(("send", lane, letter)), ((1, 0, 1), tuple(before)), 1, 0,
                                ((1, 1, 1), tuple(after)))

    def test_take_takes_the_letter_at_the_front_of_its_lane(self):
        for lane in range(3):
            for letter in range(3):
                for word in ((), (0,), (2, 1), (letter, letter), (letter, 0, 1, 2)):
                    before, after = [(1, 0), (), (2, 2)], [(1, 0), (), (2, 2)]
                    before[lane], after[lane] = (letter,) + word, word
                    self.doable(one_step(("take", lane, letter)), ((1, 0, 1), tuple(before)), 1, 0,
                                ((1, 1, 1), tuple(after)))

    def test_take_needs_a_letter(self):
        for lane in range(3):
            for letter in range(3):
                words = [(letter,), (letter,), (letter,)]
                words[lane] = ()
                self.refused(one_step(("take", lane, letter)), ((0, 0, 0), tuple(words)), 1, 0)

    def test_take_needs_the_very_letter_at_the_front(self):
        for lane in range(3):
            for letter in range(3):
                for other in range(3):
                    words = [(letter,), (letter,), (letter,)]
                    words[lane] = (other, letter, letter)
                    program, lot = one_step(("take", lane, letter)), ((0, 0, 0), tuple(words))
                    if other == letter:
                        words[lane] = (letter, letter)
                        self.doable(program, lot, 1, 0, ((0, 1, 0), tuple(words)))
                    else:
                        # Also a greater letter is another one: no step makes it smaller.
                        self.refused(program, lot, 1, 0)

    def test_test_needs_an_empty_word(self):
        for lane in range(3):
            words = [(0,), (1, 1), (2,)]
            words[lane] = ()
            program = one_step(("test", lane))
            self.doable(program, ((0, 0, 0), tuple(words)), 1, 0, ((0, 1, 0), tuple(words)))
            self.doable(program, ((0, 0, 0), ((), (), ())), 1, 0, ((0, 1, 0), ((), (), ())))
            for word in ((0,), (1,), (2,), (0, 0), (0,) * 60):
                for others in ((), (0,)):
                    words = [others, others, others]
                    words[lane] = word
                    self.refused(program, ((0, 0, 0), tuple(words)), 1, 0)

    def test_rest_leaves_the_lanes(self):
        for words in (((), (), ()), ((0,), (1, 2), ()), ((2,) * 60, (), (0, 1))):
            self.doable(one_step(("rest",)), ((1, 0, 0), words), 1, 0, ((1, 1, 0), words))

    def test_machine_in_another_place(self):
        for action in (("send", 0, 0), ("take", 0, 0), ("test", 1), ("rest",)):
            for start in range(3):
                for place in range(3):
                    program = one_step(action, start, 2)
                    lot = ((0, place, 0), ((0,), (), ()))
                    if place == start:
                        self.gives(True, can_do, program, lot, 1, 0)
                    else:
                        self.refused(program, lot, 1, 0)

    def test_places_of_other_machines_do_not_count(self):
        for one in (0, 1):
            for three in (0, 1):
                self.doable(one_step(("rest",), 2, 0), ((one, 2, three), ((), (), ())), 1, 0,
                            ((one, 0, three), ((), (), ())))

    def test_step_from_a_place_to_the_same_place(self):
        for action, after in (
                (("send", 0, 1), (0, 1)), (("take", 0, 0), ()), (("test", 1), (0,)), (("rest",), (0,))):
            self.doable(one_step(action, 1, 1), ((0, 1, 0), ((0,), (), ())), 1, 0,
                        ((0, 1, 0), (after, (), ())))
            self.refused(one_step(action, 1, 1), ((0, 0, 0), ((0,), (), ())), 1, 0)

    def test_index_tells_the_step_and_machine_whose_it_is(self):
        rows = ((0, ("send", 0, 0), 1), (0, ("send", 0, 1), 2), (1, ("rest",), 0))
        program = (1, 2, ((3, rows), (3, rows[1:])))
        lot = ((0, 1), ((1,),))
        self.doable(program, lot, 0, 0, ((1, 1), ((1, 0),)))
        self.doable(program, lot, 0, 1, ((2, 1), ((1, 1),)))
        self.refused(program, lot, 0, 2)
        self.refused(program, lot, 1, 0)
        self.doable(program, lot, 1, 1, ((0, 0), ((1,),)))

    def test_words_of_600_letters(self):
        long = (0, 1, 2) * 199 + (0, 1)
        self.doable(one_step(("send", 1, 2)), ((0, 0, 0), ((), long, ())), 1, 0,
                    ((0, 1, 0), ((), long + (2,), ())))
        self.doable(one_step(("take", 2, 0)), ((0, 0, 0), ((), (), long + (2,))), 1, 0,
                    ((0, 1, 0), ((), (), long[1:] + (2,))))
        self.refused(one_step(("take", 2, 1)), ((0, 0, 0), ((), (), long + (2,))), 1, 0)
        self.refused(one_step(("test", 2)), ((0, 0, 0), ((), (), long + (2,))), 1, 0)

    def test_refused_step_leaves_the_lot(self):
        lot = ((0, 0, 0), ((1,), (), ()))
        program = one_step(("take", 0, 0))
        self.refused(program, lot, 1, 0)
        self.assertEqual(repr(lot), "((0, 0, 0), ((1,), (), ()))")
        self.gives(((2, 0),), steps_of, program, lot)
        self.doable(program, lot, 2, 0, ((0, 0, 1), ((1,), (), ())))


class StepsOf(Calls):
    ROWS = ((0, ("rest",), 0), (0, ("send", 0, 0), 1), (0, ("take", 0, 0), 1), (0, ("take", 0, 1), 0),
            (0, ("test", 0), 0), (0, ("test", 1), 1), (1, ("rest",), 0), (1, ("take", 1, 0), 0))

    def test_all_that_can_be_done_in_their_sequence(self):
        program = (2, 2, ((2, self.ROWS), (1, ()), (2, self.ROWS)))
        for places, words, pairs in (
                ((0, 0, 0), ((), ()), ((0, 0), (0, 1), (0, 4), (0, 5), (2, 0), (2, 1), (2, 4), (2, 5))),
                ((0, 0, 1), ((0,), ()), ((0, 0), (0, 1), (0, 2), (0, 5), (2, 6))),
                ((1, 0, 0), ((1, 0), (0,)), ((0, 6), (0, 7), (2, 0), (2, 1), (2, 3))),
                ((1, 0, 1), ((), (1,)), ((0, 6), (2, 6))),
                ((1, 0, 1), ((), (0, 1)), ((0, 6), (0, 7), (2, 6), (2, 7)))):
            self.gives(pairs, steps_of, program, (places, words))

    def test_none(self):
        self.gives((), steps_of, (1, 1, ((1, ()),)), ((0,), ((),)))
        self.gives((), steps_of, (3, 1, ((1, ()), (2, ()), (5, ()))), ((0, 1, 4), ((), (0,), ())))
        self.gives((), steps_of, (1, 2, ((2, ((0, ("rest",), 0),)),)), ((1,), ((),)))
        self.gives((), steps_of, (1, 2, ((2, ((0, ("take", 0, 0), 0),)),)), ((0,), ((1, 0),)))
        self.gives((), steps_of, (1, 2, ((2, ((0, ("test", 0), 0),)),)), ((0,), ((0,),)))

    def test_words_of_600_letters(self):
        program = (2, 2, ((2, self.ROWS),))
        self.gives(((0, 0), (0, 1), (0, 3)), steps_of, program, ((0,), ((1,) * 600, (0,) * 600)))
        self.gives(((0, 6), (0, 7)), steps_of, program, ((1,), ((1,) * 600, (0,) * 600)))


if __name__ == "__main__":
    unittest.main()
