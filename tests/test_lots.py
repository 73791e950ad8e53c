import unittest

from losinglanes.errors import InvalidLot, InvalidSituation
from losinglanes.programs import first_lot, require_lot, require_situation
from samples import OTHER_KINDS, part_at, paths_of, spoiled_parts, with_part

SMALL = (1, 1, ((1, ()),))
LARGE = (3, 3, ((5, ()), (1, ()), (3, ((0, ("rest",), 2),))))
LOT = ((4, 0, 2), ((0, 1, 2), (), (2,)))

# Each is less than the next one, as Python compares tuples.
ASCENDING = (
    ((0, 0, 0), ((), (), ())), ((0, 0, 0), ((), (), (0,))), ((0, 0, 0), ((), (0,), ())),
    ((0, 0, 0), ((0,), (), ())), ((0, 0, 0), ((0, 0), (), ())), ((0, 0, 0), ((1,), (), ())),
    ((0, 0, 1), ((), (), ())), ((4, 0, 0), ((), (), ())), ((4, 0, 2), ((2,) * 60,) * 3))

NO_LOTS = (
    None, (), ((4, 0, 2),), ((4, 0, 2), ((), (), ()), ()), [(4, 0, 2), ((), (), ())],
    ((5, 0, 2), ((), (), ())), ((4, 0, 2), ((), ())), ((4, 0, 2), ((3,), (), ())),
    ((4, 0, 2), ((0,) * 61, (), ())), ((4, 0, 2), ((), (), (0,) * 61)), ((4, 0, True), ((), (), ())),
    ((4, False, 2), ((), (), ())), ((4, 0, 2), ((True,), (), ())), ((4, 0, 2), ((), [], ())),
    "lot", 0, {}, [], (((4, 0, 2), ((), (), ())),))


class RequireLot(unittest.TestCase):
    def taken(self, program, value):
        with self.subTest(value=value):
            before = repr((program, value))
            self.assertIs(require_lot(program, value), value)
            self.assertEqual(repr((program, value)), before)

    def refused(self, program, value):
        with self.assertRaises(InvalidLot) as caught:
            require_lot(program, value)
        self.assertIs(type(caught.exception), InvalidLot)

    def test_ordinary_lots(self):
        self.taken(SMALL, ((0,), ((),)))
        self.taken(SMALL, ((0,), ((0, 0, 0),)))
        self.taken(LARGE, first_lot(LARGE))
        self.taken(LARGE, LOT)
        for lot in ASCENDING:
            self.taken(LARGE, lot)

    def test_words_of_60_and_of_61_letters(self):
        for lane in range(3):
            for letter in range(3):
                self.taken(LARGE, with_part(LOT, (1, lane), (letter,) * 60))
                self.refused(LARGE, with_part(LOT, (1, lane), (letter,) * 61))
        self.taken(LARGE, with_part(LOT, (1,), ((0,) * 59, (1,) * 60, (2,) * 60)))
        self.refused(SMALL, ((0,), ((0,) * 600,)))

    def test_places_at_their_bounds(self):
        for at, places in enumerate((5, 1, 3)):
            for place in range(places):
                self.taken(LARGE, with_part(LOT, (0, at), place))
            for place in (-1, places, places + 1, -places, 10 ** 30):
                self.refused(LARGE, with_part(LOT, (0, at), place))

    def test_letters_at_their_bounds(self):
        for letters in (1, 2, 3):
            program = (2, letters, ((1, ()),))
            for lane in (0, 1):
                for at in (0, 1, 59):
                    word = (0,) * 60
                    for letter in range(letters):
                        lot = ((0,), with_part(((), ()), (lane,), with_part(word, (at,), letter)))
                        self.taken(program, lot)
                    for letter in (-1, letters, letters + 1, 10 ** 30):
                        lot = ((0,), with_part(((), ()), (lane,), with_part(word, (at,), letter)))
                        self.refused(program, lot)

    def test_numbers_of_places_and_words(self):
        for lanes in (1, 2, 3):
            for machines in (1, 2, 3):
                program = (lanes, 1, ((1, ()),) * machines)
                for words in range(5):
                    for places in range(5):
                        lot = ((0,) * places, ((),) * words)
                        if (places, words) == (machines, lanes):
                            self.taken(program, lot)
                        else:
                            self.refused(program, lot)

    def test_numbers_of_parts(self):
        for value in ((), LOT[:1], LOT + ((),), LOT + LOT, (LOT,), LOT[::-1], LOT[0], LOT[1]):
            self.refused(LARGE, value)

    def test_booleans_are_no_integers(self):
        for yes in (True, False):
            self.refused(LARGE, with_part(LOT, (0, 0), yes))
            self.refused(LARGE, with_part(LOT, (0, 1), yes))
            self.refused(LARGE, with_part(LOT, (1, 0, 2), yes))
            self.refused(LARGE, with_part(LOT, (1, 2, 0), yes))

    def test_each_part_spoiled_alone(self):
        for path in paths_of(LOT):
            for spoiled in spoiled_parts(part_at(LOT, path)):
                self.refused(LARGE, with_part(LOT, path, spoiled))

    def test_values_of_other_kinds(self):
        for value in OTHER_KINDS + (0, 1, True, False, LARGE, SMALL, ("", ""), ([], []), (0, ())):
            self.refused(LARGE, value)
            self.refused(SMALL, value)

    def test_lists_and_dictionaries_stay_as_they_were(self):
        for value in ([[0], [[]]], ([0], ((),)), ((0,), [[0]]), ((0,), ([0],)), {0: [0], 1: [[]]}):
            before = repr(value)
            self.refused(SMALL, value)
            self.assertEqual(repr(value), before)


class RequireSituation(unittest.TestCase):
    def taken(self, program, value):
        with self.subTest(value=value):
            before = repr((program, value))
            self.assertIs(require_situation(program, value), value)
            self.assertEqual(repr((program, value)), before)

    def refused(self, value, index, program=LARGE):
        with self.assertRaises(InvalidSituation) as caught:
            require_situation(program, value)
        self.assertIs(type(caught.exception), InvalidSituation)
        self.assertEqual(repr(caught.exception.index), repr(index))

    def test_one_lot(self):
        self.taken(SMALL, (((0,), ((),)),))
        self.taken(SMALL, (((0,), ((0,) * 60,)),))
        for lot in ASCENDING:
            self.taken(LARGE, (lot,))

    def test_two_lots_ascend_strictly(self):
        for at, lot in enumerate(ASCENDING):
            for other_at, other in enumerate(ASCENDING):
                if at < other_at:
                    self.taken(LARGE, (lot, other))
                else:
                    self.refused((lot, other), 1)

    def test_three_lots_ascend_strictly(self):
        for one in range(len(ASCENDING)):
            for two in range(len(ASCENDING)):
                for three in range(len(ASCENDING)):
                    value = (ASCENDING[one], ASCENDING[two], ASCENDING[three])
                    if one >= two:
                        self.refused(value, 1)
                    elif two >= three:
                        self.refused(value, 2)
                    else:
                        self.taken(LARGE, value)

    def test_lots_that_are_above_one_another_may_stand_together(self):
        self.taken(SMALL, (((0,), ((),)), ((0,), ((0,),)), ((0,), ((0, 0),))))

    def test_numbers_of_lots(self):
        self.refused((), None)
        self.refused(ASCENDING[:4], None)
        self.refused(ASCENDING, None)
        self.refused(ASCENDING[:4][::-1], None)
        self.refused((None,) * 4, None)

    def test_a_lot_that_is_none_at_each_index(self):
        for wrong in NO_LOTS:
            for many in (1, 2, 3):
                for at in range(many):
                    self.refused(with_part(ASCENDING[:many], (at,), wrong), at)

    def test_the_first_of_two_wrong_parts_is_told(self):
        one, two, three = ASCENDING[:3]
        for wrong in NO_LOTS:
            self.refused((wrong, wrong, three), 0)
            self.refused((wrong, three, two), 0)
            self.refused((one, wrong, wrong), 1)
            self.refused((two, one, wrong), 1)
            self.refused((one, one, wrong), 1)
            self.refused((two, wrong, one), 1)

    def test_lots_are_those_of_the_program(self):
        lot = ((1,), ((1,),))
        self.taken((1, 2, ((2, ()),)), (lot,))
        self.refused((lot,), 0, (1, 1, ((2, ()),)))
        self.refused((lot,), 0, (1, 2, ((1, ()),)))
        self.refused((lot,), 0, (2, 2, ((2, ()),)))
        self.refused((lot,), 0, (1, 2, ((2, ()), (2, ()))))

    def test_each_part_spoiled_alone(self):
        value = (ASCENDING[0], ASCENDING[5], LOT)
        for path in paths_of(value)[1:]:
            for spoiled in spoiled_parts(part_at(value, path)):
                self.refused(with_part(value, path, spoiled), path[0])

    def test_values_that_are_no_tuple(self):
        for value in (
                None, 0, 1, 2, True, False, "", "ab", list(ASCENDING[:1]), list(ASCENDING[:3]),
                {0: ASCENDING[0]}, {ASCENDING[0]: 0}, {}, []):
            self.refused(value, None)
        for value in OTHER_KINDS:
            self.refused(value, None)
        self.refused(LOT, 0)

    def test_lists_and_dictionaries_stay_as_they_were(self):
        for value in (
                [[[0], [[]]]], ([[0], [[]]],), (((0,), ((),)), ((0,), [[0]])), {0: [[0], [[]]]}):
            before = repr(value)
            with self.assertRaises(InvalidSituation):
                require_situation(SMALL, value)
            self.assertEqual(repr(value), before)


if __name__ == "__main__":
    unittest.main()
