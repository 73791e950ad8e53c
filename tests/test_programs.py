import inspect
import unittest
from itertools import combinations

from losinglanes import programs
from losinglanes.errors import InvalidProgram
from losinglanes.programs import first_lot, require_lot, require_program, require_situation
from samples import OTHER_KINDS, part_at, paths_of, spoiled_parts, with_part

EXAMPLE = (1, 2, ((1, ((0, ("send", 0, 0), 0),)), (2, ((0, ("take", 0, 0), 1),))))

EIGHT_STEPS = (
    (0, ("rest",), 0), (0, ("send", 0, 0), 4), (0, ("send", 2, 2), 0), (1, ("take", 0, 1), 1),
    (1, ("take", 1, 0), 1), (2, ("test", 0), 3), (2, ("test", 2), 3), (4, ("rest",), 4))
LARGE = (3, 3, ((5, EIGHT_STEPS), (1, ()), (2, ((0, ("take", 1, 2), 1), (1, ("send", 1, 1), 0)))))

# Each is less than the next one, as Python compares tuples.
ASCENDING = (
    (0, ("rest",), 0), (0, ("rest",), 1), (0, ("send", 0, 0), 0), (0, ("send", 0, 0), 1),
    (0, ("send", 0, 1), 0), (0, ("send", 1, 0), 0), (0, ("take", 0, 0), 0), (0, ("take", 0, 1), 0),
    (0, ("take", 1, 0), 0), (0, ("test", 0), 0), (0, ("test", 0), 1), (0, ("test", 1), 0),
    (1, ("rest",), 0), (1, ("send", 0, 0), 0))


def with_step(step, lanes, letters, places):
    """A program whose second machine has this step alone."""
    return lanes, letters, ((1, ()), (places, (step,)))


def expected_part(path):
    """The part that is told if just what stands at the path is wrong."""
    if len(path) == 0:
        return None
    if path[0] < 2:
        return ("lanes", "letters")[path[0]]
    if len(path) == 1:
        return "machines"
    if len(path) == 2 or path[2] == 0:
        return ("places", path[1])
    return ("steps", path[1])


PARTS_IN_ORDER = [None, "lanes", "letters", "machines"]
PARTS_IN_ORDER += [(word, machine) for machine in range(3) for word in ("places", "steps")]


class RequireProgram(unittest.TestCase):
    def taken(self, value):
        with self.subTest(value=value):
            before = repr(value)
            self.assertIs(require_program(value), value)
            self.assertEqual(repr(value), before)

    def refused(self, value, part):
        with self.assertRaises(InvalidProgram) as caught:
            require_program(value)
        self.assertIs(type(caught.exception), InvalidProgram)
        self.assertEqual(repr(caught.exception.part), repr(part))

    def test_functions_stand_in_their_file(self):
        for function, names in (
                (require_program, ["value"]), (first_lot, ["program"]),
                (require_lot, ["program", "value"]), (require_situation, ["program", "value"])):
            self.assertEqual(function.__module__, programs.__name__)
            self.assertEqual(list(inspect.signature(function).parameters), names)

    def test_example_of_the_interface(self):
        self.assertEqual(repr((require_program(EXAMPLE) == EXAMPLE, first_lot(EXAMPLE))),
                         "(True, ((0, 0), ((),)))")

    def test_smallest_and_largest(self):
        self.taken(EXAMPLE)
        self.taken(LARGE)
        self.taken((1, 1, ((1, ()),)))
        self.taken((3, 3, ((5, EIGHT_STEPS),) * 3))

    def test_bounds_of_lanes(self):
        for lanes in (1, 2, 3):
            self.taken((lanes, 1, ((1, ()),)))
        for lanes in (0, 4, -1, 10 ** 30, -3):
            self.refused((lanes, 1, ((1, ()),)), "lanes")

    def test_bounds_of_letters(self):
        for letters in (1, 2, 3):
            self.taken((1, letters, ((1, ()),)))
        for letters in (0, 4, -1, 10 ** 30, -3):
            self.refused((1, letters, ((1, ()),)), "letters")

    def test_bounds_of_machines(self):
        for many in (1, 2, 3):
            self.taken((1, 1, ((1, ()),) * many))
        for many in (0, 4, 5, 100):
            self.refused((1, 1, ((1, ()),) * many), "machines")

    def test_bounds_of_places(self):
        for at in (0, 1, 2):
            for places in (1, 2, 3, 4, 5):
                self.taken(with_part((1, 1, ((1, ()),) * 3), (2, at, 0), places))
            for places in (0, 6, -1, 10 ** 30):
                self.refused(with_part((1, 1, ((1, ()),) * 3), (2, at, 0), places), ("places", at))

    def test_bounds_of_the_number_of_steps(self):
        for many in range(9):
            for at in (0, 1, 2):
                self.taken(with_part(LARGE, (2, at), (5, EIGHT_STEPS[:many])))
        nine = EIGHT_STEPS + ((4, ("test", 0), 0),)
        ten = nine + ((4, ("test", 1), 0),)
        for at in (0, 1, 2):
            for steps in (nine, ten, nine[1:] + ten[-1:] + ((4, ("test", 2), 0),)):
                self.refused(with_part(LARGE, (2, at), (5, steps)), ("steps", at))

    def test_each_step_in_and_around_the_bounds(self):
        for lanes, letters, places in ((1, 1, 1), (1, 3, 2), (3, 1, 5), (2, 2, 3), (3, 3, 4)):
            for start in (-1, 0, places - 1, places):
                for end in (-1, 0, places - 1, places):
                    self.check_actions(lanes, letters, places, start, end)

    def check_actions(self, lanes, letters, places, start, end):
        in_places = 0 <= start < places and 0 <= end < places
        self.check_step((start, ("rest",), end), lanes, letters, places, in_places)
        for lane in (-1, 0, lanes - 1, lanes):
            in_lanes = in_places and 0 <= lane < lanes
            self.check_step((start, ("test", lane), end), lanes, letters, places, in_lanes)
            for letter in (-1, 0, letters - 1, letters):
                in_all = in_lanes and 0 <= letter < letters
                for name in ("send", "take"):
                    step = (start, (name, lane, letter), end)
                    self.check_step(step, lanes, letters, places, in_all)

    def check_step(self, step, lanes, letters, places, right):
        program = with_step(step, lanes, letters, places)
        with self.subTest(program=program):
            if right:
                self.assertIs(require_program(program), program)
            else:
                self.refused(program, ("steps", 1))

    def test_steps_are_held_to_the_places_of_their_own_machine(self):
        step = (1, ("rest",), 1)
        self.taken((1, 1, ((1, ()), (2, (step,)), (1, ()))))
        self.refused((1, 1, ((2, (step,)), (1, (step,)), (2, ()))), ("steps", 1))
        self.refused((1, 1, ((1, (step,)), (2, (step,)), (2, ()))), ("steps", 0))
        self.refused((1, 1, ((2, (step,)), (2, (step,)), (1, (step,)))), ("steps", 2))

    def test_steps_ascend_strictly(self):
        for at, step in enumerate(ASCENDING):
            for other_at, other in enumerate(ASCENDING):
                program = (2, 2, ((2, ()), (2, (step, other))))
                if at < other_at:
                    self.taken(program)
                else:
                    self.refused(program, ("steps", 1))

    def test_one_pair_of_many_steps_out_of_sequence_or_doubled(self):
        for at in range(7):
            before, one, two, behind = (
                EIGHT_STEPS[:at], EIGHT_STEPS[at], EIGHT_STEPS[at + 1], EIGHT_STEPS[at + 2:])
            turned = before + (two, one) + behind
            doubled = before + (one, one) + behind
            self.refused(with_part(LARGE, (2, 0, 1), turned), ("steps", 0))
            self.refused(with_part(LARGE, (2, 0, 1), doubled), ("steps", 0))
        self.refused(with_part(LARGE, (2, 0, 1), EIGHT_STEPS[::-1]), ("steps", 0))

    def test_actions_of_a_wrong_form(self):
        wrong = (
            (), ("rest", 0), ("rest", 0, 0), ("rest", None), ("test",), ("test", 0, 0), ("send",),
            ("send", 0), ("send", 0, 0, 0), ("take",), ("take", 0), ("take", 0, 0, 0), ("",),
            ("wait",), ("Rest",), ("SEND", 0, 0), ("give", 0, 0), ("drop", 0, 0), ("tests", 0),
            ("sen", 0, 0), ("lose", 0, 0), (None,), (0,), (0, 0, 0), ("send", "0", "0"),
            (("send",), 0, 0), ("send", (0,), 0), ("send", 0, (0,)), (["send"], 0, 0), ({}, 0, 0),
            "rest", "test", ["rest"], ["send", 0, 0], {"rest": 0}, {0: "rest"}, None, 0, (("rest",),))
        for action in wrong:
            with self.subTest(action=action):
                self.refused(with_step((0, action, 0), 2, 2, 2), ("steps", 1))

    def test_booleans_are_no_integers(self):
        for yes in (True, False):
            self.refused((yes, 1, ((1, ()),)), "lanes")
            self.refused((1, yes, ((1, ()),)), "letters")
            self.refused((1, 1, ((yes, ()),)), ("places", 0))
            for step in (
                    (yes, ("rest",), 0), (0, ("rest",), yes), (0, ("test", yes), 0),
                    (0, ("send", yes, 0), 0), (0, ("send", 0, yes), 0), (0, ("take", yes, 0), 0),
                    (0, ("take", 0, yes), 0), (0, ("rest", yes), 0)):
                with self.subTest(step=step):
                    self.refused(with_step(step, 2, 2, 2), ("steps", 1))

    def test_too_few_and_too_many_parts(self):
        for value in ((), (1,), (1, 2), EXAMPLE + (1,), EXAMPLE + EXAMPLE, (EXAMPLE,)):
            self.refused(value, None)
        for machine in ((), (1,), (1, (), ()), (1, (), 0, 0), ((1, ()),)):
            for at in (0, 1, 2):
                self.refused(with_part(LARGE, (2, at), machine), ("places", at))
        for step in ((), (0,), (0, ("rest",)), (0, ("rest",), 0, 0), ("rest",), ((0, ("rest",), 0),)):
            for at in (0, 1, 2):
                self.refused(with_part(LARGE, (2, at, 1), (step,)), ("steps", at))
        self.refused(with_part(LARGE, (2, 1, 1), (0, ("rest",), 0)), ("steps", 1))

    def test_each_part_spoiled_alone(self):
        for program in (EXAMPLE, LARGE):
            for path in paths_of(program)[1:]:
                for spoiled in spoiled_parts(part_at(program, path)):
                    self.refused(with_part(program, path, spoiled), expected_part(path))

    def test_of_two_wrong_parts_the_first_is_told(self):
        paths = [path for path in paths_of(LARGE) if path]
        for one, two in combinations(paths, 2):
            if two[:len(one)] == one:
                continue
            first = min(expected_part(one), expected_part(two), key=PARTS_IN_ORDER.index)
            for spoiled in (None, -1, True):
                wrong = with_part(with_part(LARGE, one, spoiled), two, spoiled)
                self.refused(wrong, first)

    def test_of_two_wrong_parts_the_first_is_told_at_the_bounds(self):
        self.refused((4, 0, ()), "lanes")
        self.refused((3, 0, ()), "letters")
        self.refused((3, 4, ((0, ()),) * 4), "letters")
        self.refused((3, 3, ((0, ()),) * 4), "machines")
        self.refused((3, 3, ((6, EIGHT_STEPS[::-1]), (0, ()))), ("places", 0))
        self.refused((3, 3, ((5, EIGHT_STEPS[::-1]), (0, ()))), ("steps", 0))
        self.refused((3, 3, ((5, EIGHT_STEPS), (0, ()), (1, ((0, ("wait",), 0),)))), ("places", 1))
        self.refused((4, 3, ((1, ()),), 0), None)

    def test_values_of_other_kinds(self):
        for value in OTHER_KINDS + (
                0, 1, True, False, 3, (), first_lot(LARGE), list(LARGE), dict(enumerate(LARGE)),
                [LARGE], (LARGE,), (list(LARGE), LARGE)):
            self.refused(value, None)
        self.refused(((), (), ()), "lanes")
        self.refused(LARGE[2], "lanes")

    def test_turned_round_and_exchanged_parts(self):
        self.refused(EXAMPLE[::-1], "lanes")
        self.refused((1, EXAMPLE[2], 2), "letters")
        self.refused((1, 2, 1), "machines")
        self.refused((1, 2, (EXAMPLE[2][0][::-1],)), ("places", 0))
        self.refused((1, 2, ((2, EXAMPLE[2][1][1][0]),)), ("steps", 0))
        self.refused(with_step((("rest",), 0, 0), 1, 1, 1), ("steps", 1))
        self.refused(with_step((0, 0, ("rest",)), 1, 1, 1), ("steps", 1))

    def test_lists_and_dictionaries_stay_as_they_were(self):
        for value in (
                [1, 2, [[1, []]]], {"lanes": [1]}, (1, 2, [(1, ())]), (1, 2, ([1, []],)),
                (1, 2, ((1, [[0, ["rest"], 0]]),)), (1, 2, ((2, ([1, ("rest",), 0], {0: [1]})),))):
            before = repr(value)
            with self.assertRaises(InvalidProgram):
                require_program(value)
            self.assertEqual(repr(value), before)


class FirstLot(unittest.TestCase):
    def test_one_to_three_machines_and_lanes(self):
        for lanes in (1, 2, 3):
            for many in (1, 2, 3):
                program = (lanes, 3, ((5, EIGHT_STEPS[:1]),) * many)
                before = repr(program)
                lot = first_lot(program)
                self.assertEqual(repr(lot), repr((tuple([0] * many), tuple([()] * lanes))))
                self.assertEqual(repr(program), before)
                self.assertIs(require_lot(program, lot), lot)


if __name__ == "__main__":
    unittest.main()
