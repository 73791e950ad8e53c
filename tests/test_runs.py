import unittest

from calls import Calls
from losinglanes import runs
from losinglanes.errors import Stuck
from losinglanes.runs import is_in, leads_into, lots_of

EXAMPLE = (1, 2, ((1, ((0, ("send", 0, 0), 0),)), (2, ((0, ("take", 0, 0), 1),))))

SEND_1 = (0, ("send", 0, 1), 0)
TAKE_0 = (0, ("take", 0, 0), 1)
TAKE_1 = (0, ("take", 0, 1), 1)
TEST_0 = (0, ("test", 0), 2)
REST = (1, ("rest",), 0)

# Two lanes; the first machine sends, the second takes, tests and rests.
PROGRAM = (2, 2, ((1, (SEND_1,)), (3, (TAKE_0, TAKE_1, TEST_0, REST))))
START = ((0, 0), ((), ()))


class LotsOf(Calls):
    def test_functions_stand_in_their_file(self):
        self.stands_in(runs, lots_of, "(program, lot, entries)")
        self.stands_in(runs, is_in, "(lot, situation)")
        self.stands_in(runs, leads_into, "(program, lot, entries, situation)")

    def test_example_of_the_interface(self):
        self.gives((((0, 0), ((1, 0),)), ((0, 1), ((),))),
                   lots_of, EXAMPLE, ((0, 0), ((1, 0),)), ((((0,),), 1, 0),))

    def test_without_entries(self):
        for lot in (START, ((0, 2), ((1, 0), (0,))), ((0, 1), ((0,) * 600, (1,) * 600))):
            self.gives((lot,), lots_of, PROGRAM, lot, ())

    def test_one_entry(self):
        self.gives((START, ((0, 0), ((1,), ()))), lots_of, PROGRAM, START, ((((), ()), 0, 0),))
        lot = ((0, 0), ((1, 0), (1,)))
        self.gives((lot, ((0, 0), ((1, 0, 1), (1,)))),
                   lots_of, PROGRAM, lot, ((((1, 0), (1,)), 0, 0),))
        self.gives((lot, ((0, 1), ((0,), (1,)))), lots_of, PROGRAM, lot, ((((1, 0), (1,)), 1, 1),))

    def test_several_entries(self):
        entries = (
            (((), ()), 0, 0), (((1,), ()), 0, 0), (((0, 1), ()), 1, 0), (((1,), ()), 1, 3),
            (((1,), ()), 1, 1), (((), ()), 1, 3), (((), ()), 1, 2))
        lots = (
            START, ((0, 0), ((1,), ())), ((0, 0), ((1, 1), ())), ((0, 1), ((1,), ())),
            ((0, 0), ((1,), ())), ((0, 1), ((), ())), ((0, 0), ((), ())), ((0, 2), ((), ())))
        for many in range(len(entries) + 1):
            self.gives(lots[:many + 1], lots_of, PROGRAM, START, entries[:many])

    def test_entries_with_words_that_are_smaller(self):
        lot = ((0, 0), ((1, 1, 1), (1, 1)))
        for word in ((), (0,), (1, 0), (0, 0, 0), (1, 1, 1)):
            for other in ((), (1,), (0, 1)):
                self.gives((lot, ((0, 0), (word + (1,), other))),
                           lots_of, PROGRAM, lot, (((word, other), 0, 0),))

    def test_losing_makes_a_take_possible(self):
        lot = ((0, 0), ((1, 0), (1,)))
        self.raises(Stuck, {"index": 0}, lots_of, PROGRAM, lot, ((((1, 0), (1,)), 1, 0),))
        self.gives((lot, ((0, 1), ((0,), ()))), lots_of, PROGRAM, lot, ((((0, 0), ()), 1, 0),))
        self.gives((lot, ((0, 1), ((), (1,)))), lots_of, PROGRAM, lot, ((((0,), (1,)), 1, 0),))

    def test_losing_makes_a_take_impossible(self):
        lot = ((0, 0), ((1, 0), ()))
        self.gives((lot, ((0, 1), ((), ()))), lots_of, PROGRAM, lot, ((((1,), ()), 1, 1),))
        self.raises(Stuck, {"index": 0}, lots_of, PROGRAM, lot, ((((0, 0), ()), 1, 1),))
        self.raises(Stuck, {"index": 0}, lots_of, PROGRAM, lot, ((((0,), ()), 1, 1),))
        self.raises(Stuck, {"index": 0}, lots_of, PROGRAM, lot, ((((), ()), 1, 1),))

    def test_losing_makes_a_test_possible(self):
        lot = ((0, 0), ((0,), (1,)))
        self.raises(Stuck, {"index": 0}, lots_of, PROGRAM, lot, ((((0,), ()), 1, 2),))
        self.gives((lot, ((0, 2), ((), (1,)))), lots_of, PROGRAM, lot, ((((), (1,)), 1, 2),))
        self.gives((lot, ((0, 2), ((), ()))), lots_of, PROGRAM, lot, ((((), ()), 1, 2),))

    def test_words_that_are_not_within_those_of_the_lot(self):
        for words, entry_words in (
                (((), ()), ((0,), ())), (((), ()), ((), (0,))), (((0,), ()), ((1,), ())),
                (((0, 1), ()), ((1, 0), ())), (((1, 1), (1,)), ((0, 0, 0), ())),
                (((1,), (0,)), ((1,), (1,))), (((0,), ()), ((), (0,)))):
            lot = ((0, 0), words)
            self.raises(Stuck, {"index": 0}, lots_of, PROGRAM, lot, ((entry_words, 0, 0),))

    def test_words_are_held_to_those_of_the_lot_that_the_entry_begins_with(self):
        lot = ((0, 0), ((1,), (0,)))
        # A letter that an entry has lost is not there for a later one.
        self.raises(Stuck, {"index": 1}, lots_of, PROGRAM, lot,
                    ((((), (0,)), 0, 0), (((1, 1), (0,)), 0, 0)))
        self.raises(Stuck, {"index": 1}, lots_of, PROGRAM, lot,
                    ((((0,), (0,)), 0, 0), (((1, 1), (0,)), 0, 0)))
        self.gives((lot, ((0, 0), ((1, 1), ()))), lots_of, PROGRAM, lot, ((((1,), ()), 0, 0),))

    def test_first_entry_that_cannot_be_done(self):
        good = (((), ()), 0, 0)
        for wrong in ((((), (0,)), 0, 0), (((), ()), 1, 0), (((1,) * 9, ()), 0, 0), (((), ()), 1, 3)):
            for many in range(1, 5):
                for at in range(many):
                    entries = (good,) * at + (wrong,) + (good,) * (many - at - 1)
                    self.raises(Stuck, {"index": at}, lots_of, PROGRAM, START, entries)
                    self.raises(Stuck, {"index": at}, lots_of, PROGRAM, START, entries + (wrong,))

    def test_machine_in_another_place(self):
        self.raises(Stuck, {"index": 0}, lots_of, PROGRAM, ((0, 2), ((0,), ())), ((((0,), ()), 1, 0),))
        self.raises(Stuck, {"index": 1}, lots_of, PROGRAM, ((0, 0), ((0, 0), ())),
                    ((((0, 0), ()), 1, 0), (((0,), ()), 1, 0)))

    def test_run_of_500_entries(self):
        entries = tuple([(((1,) * many, (0,)), 0, 0) for many in range(500)])
        lot = ((0, 0), ((), (0, 0)))
        lots = (lot,) + tuple([((0, 0), ((1,) * many, (0,))) for many in range(1, 501)])
        self.gives(lots, lots_of, PROGRAM, lot, entries)
        wrong = (((0,) * 500, (0,)), 0, 0)
        self.raises(Stuck, {"index": 499}, lots_of, PROGRAM, lot, entries[:-1] + (wrong,))
        self.gives(True, leads_into, PROGRAM, lot, entries, (((0, 0), ((0,) * 60, (0,))),))
        self.gives(False, leads_into, PROGRAM, lot, entries, (((0, 0), ((0,) * 60, (1,))),))
        self.gives(False, leads_into, PROGRAM, lot, entries[:-1] + (wrong,), (((0, 0), ((), ())),))

    def test_words_of_600_letters(self):
        long = (0, 1) * 300
        lot = ((0, 0), (long, long))
        self.gives((lot, ((0, 1), (long[1:], (1,) * 300)), ((0, 0), (long[1:], ()))),
                   lots_of, PROGRAM, lot, (((long, (1,) * 300), 1, 0), ((long[1:], ()), 1, 3)))
        self.raises(Stuck, {"index": 0}, lots_of, PROGRAM, lot, (((long, (1,) * 301), 1, 0),))

    def test_refused_run_leaves_the_lot(self):
        lot, entries = ((0, 0), ((0,), ())), ((((0,), ()), 0, 0), (((0, 1), ()), 1, 0))
        after = (lot, ((0, 0), ((0, 1), ())), ((0, 1), ((1,), ())))
        self.gives(after, lots_of, PROGRAM, lot, entries)
        self.raises(Stuck, {"index": 3}, lots_of, PROGRAM, lot, entries + entries)
        self.gives(after, lots_of, PROGRAM, lot, entries)


class IsIn(Calls):
    SITUATION = (((0, 0), ((0, 1), ())), ((0, 0), ((1,), (1,))), ((0, 2), ((), (0,))))

    def test_above_each_lot_of_it(self):
        for lot in self.SITUATION:
            self.gives(True, is_in, lot, self.SITUATION)
        self.gives(True, is_in, ((0, 0), ((1, 1), ())), self.SITUATION)
        self.gives(True, is_in, ((0, 0), ((1, 0), (0, 1))), self.SITUATION)
        self.gives(True, is_in, ((0, 2), ((1, 1, 1), (1,))), self.SITUATION)

    def test_above_several(self):
        self.gives(True, is_in, ((0, 0), ((0, 1), (1,))), self.SITUATION)
        self.gives(True, is_in, ((0, 0), ((1,),)), (((0, 0), ((),)), ((0, 0), ((0,),)), ((0, 0), ((1,),))))

    def test_above_none(self):
        for lot in (
                ((0, 0), ((), ())), ((0, 0), ((1, 0), ())), ((0, 0), ((1,), (0, 0))),
                ((0, 1), ((0, 1), (1,))), ((0, 2), ((1, 1, 1), ())), ((0, 1), ((), ()))):
            self.gives(False, is_in, lot, self.SITUATION)
        self.gives(False, is_in, ((0,), ((),)), (((0,), ((0,),)),))

    def test_one_lot_alone(self):
        self.gives(True, is_in, ((0,), ((1,),)), (((0,), ((0,),)),))
        self.gives(True, is_in, ((0,), ((),)), (((0,), ((),)),))
        self.gives(False, is_in, ((0,), ((0,),)), (((0,), ((1,),)),))
        self.gives(False, is_in, ((0,), ((0,),)), (((1,), ((),)),))

    def test_words_of_600_letters(self):
        situation = (((0,), ((0,) * 60,)), ((0,), ((1,) * 60,)))
        self.gives(True, is_in, ((0,), ((0,) * 600,)), situation)
        self.gives(True, is_in, ((0,), ((0,) * 540 + (1,) * 60,)), situation[1:])
        self.gives(False, is_in, ((0,), ((0,) * 541 + (1,) * 59,)), situation[1:])

    def test_situation_of_25_lots(self):
        situation = tuple([((0, two, three), ((1,),)) for two in range(5) for three in range(5)])
        for lot in situation:
            self.gives(True, is_in, lot, situation)
            self.gives(False, is_in, (lot[0], ((0, 0),)), situation)
            self.gives(False, is_in, ((1,) + lot[0][1:], lot[1]), situation)


class LeadsInto(Calls):
    def test_without_entries(self):
        self.gives(True, leads_into, PROGRAM, START, (), (START,))
        self.gives(True, leads_into, PROGRAM, ((0, 0), ((1,), (0,))), (), (((0, 0), ((0,), ())),))
        self.gives(False, leads_into, PROGRAM, START, (), (((0, 0), ((0,), ())),))
        self.gives(False, leads_into, PROGRAM, START, (), (((0, 1), ((), ())),))

    def test_last_lot_in_it(self):
        entries = ((((), ()), 0, 0), (((1,), ()), 1, 1))
        self.gives(True, leads_into, PROGRAM, START, entries, (((0, 1), ((), ())),))
        self.gives(True, leads_into, PROGRAM, START, entries, (((0, 1), ((), ())), ((0, 2), ((), ()))))
        self.gives(True, leads_into, PROGRAM, START, entries, (((0, 0), ((), ())), ((0, 1), ((), ()))))
        self.gives(True, leads_into, PROGRAM, START, entries[:1], (((0, 0), ((0,), ())),))

    def test_last_lot_not_in_it(self):
        entries = ((((), ()), 0, 0), (((1,), ()), 1, 1))
        self.gives(False, leads_into, PROGRAM, START, entries, (((0, 1), ((0,), ())),))
        self.gives(False, leads_into, PROGRAM, START, entries, (((0, 2), ((), ())),))
        self.gives(False, leads_into, PROGRAM, START, entries[:1], (((0, 0), ((1, 0), ())),))

    def test_only_a_lot_ahead_of_the_last_one_in_it(self):
        entries = ((((), ()), 0, 0), (((1,), ()), 1, 1))
        self.gives(False, leads_into, PROGRAM, START, entries, (((0, 0), ((), ())),))
        self.gives(False, leads_into, PROGRAM, START, entries, (((0, 0), ((1,), ())),))
        self.gives(False, leads_into, PROGRAM, ((0, 0), ((1, 1), ())), ((((), ()), 0, 0),),
                   (((0, 0), ((1, 1), ())),))

    def test_entry_that_cannot_be_done(self):
        anything = (((0, 0), ((), ())), ((0, 1), ((), ())), ((0, 2), ((), ())))
        good = (((), ()), 0, 0)
        for wrong in ((((0,), (0,)), 0, 0), (((), ()), 1, 0), (((), ()), 1, 1), (((), ()), 1, 3)):
            self.gives(False, leads_into, PROGRAM, START, (wrong,), anything)
            self.gives(False, leads_into, PROGRAM, START, (good, wrong), anything)
            self.gives(False, leads_into, PROGRAM, START, (wrong, good), anything)
            self.gives(False, leads_into, PROGRAM, START, (good, wrong, good), anything)
        self.gives(True, leads_into, PROGRAM, START, (good, good), anything)


if __name__ == "__main__":
    unittest.main()
