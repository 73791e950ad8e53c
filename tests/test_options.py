import unittest

from calls import Calls
from losinglanes import mends
from losinglanes.errors import InvalidOptions
from losinglanes.mends import require_options
from samples import OTHER_KINDS, part_at, paths_of, spoiled_parts, with_part

# The first machine has 7 steps, the second 8, the third none.
SEVEN = tuple(sorted([(0, ("send", lane, letter), 1) for lane in range(2) for letter in range(3)]
                     + [(1, ("rest",), 0)]))
EIGHT = tuple(sorted([(place, ("take", 1, letter), place) for place in range(2) for letter in range(3)]
                     + [(0, ("rest",), 1), (0, ("test", 0), 1)]))
PROGRAM = (2, 3, ((3, SEVEN), (2, EIGHT), (1, ())))

PUTS = (
    ("put", 0, (0, ("send", 0, 0), 0), 0), ("put", 0, (2, ("take", 1, 2), 2), 99),
    ("put", 2, (0, ("test", 1), 0), 5), ("put", 2, (0, ("rest",), 0), 1),
    ("put", 2, (0, ("send", 0, 2), 0), 7), ("put", 2, (0, ("take", 0, 0), 0), 7))
DROPS = tuple([("drop", 0, step, 3) for step in SEVEN] + [("drop", 1, step, 99) for step in EIGHT])


class RequireOptions(Calls):
    def taken(self, value, program=PROGRAM):
        with self.subTest(value=value):
            before = repr((program, value))
            self.assertIs(require_options(program, value), value)
            self.assertEqual(repr((program, value)), before)

    def refused(self, value, index, program=PROGRAM):
        self.raises(InvalidOptions, {"index": index}, require_options, program, value)

    def test_function_stands_in_its_file(self):
        self.stands_in(mends, require_options, "(program, value)")
        self.assertEqual(len(require_options(value=PUTS[:1], program=PROGRAM)), 1)

    def test_each_action_put_and_dropped(self):
        for option in PUTS + DROPS:
            self.taken((option,))

    def test_one_to_three_options(self):
        for many in (1, 2, 3):
            self.taken(PUTS[:many])
            self.taken(DROPS[:many])
            self.taken(PUTS[-many:][::-1])
        self.taken((PUTS[0], DROPS[0], PUTS[2]))

    def test_numbers_of_options(self):
        self.refused((), None)
        self.refused(PUTS[:4], None)
        self.refused((None,) * 4, None)
        self.refused(PUTS + DROPS, None)

    def test_same_option_twice_and_thrice(self):
        self.taken((PUTS[0], PUTS[0], PUTS[0]))
        self.taken((DROPS[0], ("drop", 0, SEVEN[0], 4), DROPS[0]))

    def test_cost_at_its_bounds(self):
        for option in (PUTS[0], DROPS[3]):
            for cost in (0, 1, 98, 99):
                self.taken((with_part(option, (3,), cost),))
            for cost in (-1, 100, 101, 10 ** 20, -10 ** 20, True, False, None, "0", (0,), [0]):
                self.refused((with_part(option, (3,), cost),), 0)

    def test_unknown_words(self):
        for option in (PUTS[0], DROPS[0]):
            for word in ("", "Put", "DROP", "puts", "put ", "add", "remove", None, 0, True, ("put",), ["drop"]):
                self.refused((with_part(option, (0,), word),), 0)

    def test_too_few_and_too_many_parts(self):
        for option in (PUTS[0], DROPS[0]):
            for many in range(4):
                self.refused((option[:many],), 0)
                self.refused((option[4 - many:],), 0)
            self.refused((option + (0,),), 0)
            self.refused((option + (None,),), 0)
            self.refused((option + option,), 0)
            self.refused((list(option),), 0)
            self.refused((dict(enumerate(option)),), 0)

    def test_machine_that_the_program_has_not(self):
        for option in PUTS[2:] + DROPS[:1]:
            for machine in (-1, 3, 4, 10 ** 20, True, False, None, "0", (0,)):
                self.refused((with_part(option, (1,), machine),), 0)
        small = (1, 1, ((1, ()),))
        self.taken((("put", 0, (0, ("rest",), 0), 0),), small)
        self.refused((("put", 1, (0, ("rest",), 0), 0),), 0, small)

    def test_step_that_is_none(self):
        for step in (
                None, (), (0, ("rest",)), (0, ("rest",), 0, 0), [0, ("rest",), 0], (1, ("rest",), 0),
                (0, ("rest",), 1), (-1, ("rest",), 0), (0, ("rest",), -1), (0, "rest", 0), (0, ("rest", 0), 0),
                (0, ("test", 2), 0), (0, ("test",), 0), (0, ("send", 2, 0), 0), (0, ("send", 0, 3), 0),
                (0, ("take", -1, 0), 0), (0, ("take", 0, -1), 0), (0, ("take", 0), 0), (0, ("give", 0, 0), 0)):
            self.refused((("put", 2, step, 1),), 0)
            self.refused((("drop", 2, step, 1),), 0)

    def test_true_is_no_part_of_a_step(self):
        # To Python each of these equals a step that the machine has, or one that it lacks.
        for step in ((0, ("send", 0, 0), True), (False, ("send", 0, 0), 1), (0, ("send", False, 0), 1),
                     (0, ("send", 0, True), 1), (True, ("rest",), 0)):
            self.assertIn(step, SEVEN)
            self.refused((("drop", 0, step, 1),), 0)
            self.refused((("put", 0, step, 1),), 0)
        for step in ((0, ("send", 0, 0), False), (True, ("take", 0, 0), 1), (1, ("test", True), 1)):
            self.refused((("put", 0, step, 1),), 0)

    def test_step_put_that_the_machine_has(self):
        for step in SEVEN:
            self.refused((("put", 0, step, 1),), 0)
        # Another machine has it.
        self.taken((("put", 0, EIGHT[1], 1),))
        self.refused((("put", 0, EIGHT[0], 1), ("put", 1, EIGHT[0], 1)), 1)

    def test_step_put_into_a_machine_of_8_steps(self):
        self.refused((("put", 1, (1, ("rest",), 0), 1),), 0)
        self.taken((("put", 1, (1, ("rest",), 0), 1),), (2, 3, ((3, SEVEN), (2, EIGHT[:7]), (1, ()))))
        # It stays so where an option drops one of them.
        self.refused((("drop", 1, EIGHT[0], 1), ("put", 1, (1, ("rest",), 0), 1)), 1)
        # A step put into one of 7 does not matter to another option.
        self.taken((PUTS[0], PUTS[1], ("put", 0, (1, ("rest",), 1), 0)))

    def test_step_dropped_that_the_machine_lacks(self):
        for option in PUTS:
            self.refused((("drop",) + option[1:],), 0)
        self.refused((("drop", 1, SEVEN[0], 1),), 0)
        self.refused((("drop", 0, EIGHT[1], 1),), 0)

    def test_the_first_wrong_part_is_told(self):
        wrong = (None, (), ("put",), ("put", 0, SEVEN[0], 1), ("drop", 0, SEVEN[0], 100))
        for one in wrong:
            self.refused((one, PUTS[0], DROPS[0]), 0)
            self.refused((PUTS[0], one, DROPS[0]), 1)
            self.refused((PUTS[0], DROPS[0], one), 2)
            for other in wrong:
                self.refused((one, other, PUTS[0]), 0)
                self.refused((one, PUTS[0], other), 0)
                self.refused((PUTS[0], one, other), 1)

    def test_each_part_spoiled_alone(self):
        value = (PUTS[0], DROPS[1], PUTS[2])
        for path in paths_of(value)[1:]:
            for spoiled in spoiled_parts(part_at(value, path)):
                self.refused_shortly(with_part(value, path, spoiled), path[0])

    def refused_shortly(self, value, index):
        """Without a look at the whole value, which may be great."""
        with self.assertRaises(InvalidOptions) as caught:
            require_options(PROGRAM, value)
        self.assertEqual(repr(caught.exception.index), repr(index))

    def test_values_that_are_no_tuple(self):
        for value in (
                None, 0, 1, True, False, "", "put", list(PUTS[:1]), [list(PUTS[0])], {0: PUTS[0]}, {PUTS[0]: 0}, {}):
            self.refused(value, None)
        for value in OTHER_KINDS:
            self.refused_shortly(value, None)
        self.refused(PUTS[0][:3], 0)
        self.refused(("put", "put"), 0)


if __name__ == "__main__":
    unittest.main()
