import inspect
import unittest

from losinglanes import errors

CLASSES = (
    ("InvalidProgram", ValueError, ("part",)),
    ("InvalidLot", ValueError, ()),
    ("InvalidSituation", ValueError, ("index",)),
    ("InvalidOptions", ValueError, ("index",)),
    ("InvalidClaim", ValueError, ("part",)),
    ("InvalidGoals", ValueError, ("index",)),
    ("ParseError", ValueError, ("line",)),
    ("UnknownGoal", LookupError, ("goal",)),
    ("CannotDo", RuntimeError, ()),
    ("CannotLose", RuntimeError, ()),
    ("CannotWear", RuntimeError, ()),
    ("OutOfReach", RuntimeError, ("goal",)),
    ("Stuck", RuntimeError, ("index",)),
    ("Refused", RuntimeError, ("index", "reason")),
    ("NothingDone", RuntimeError, ()),
    ("LimitExceeded", OverflowError, ("limit",)),
)

ARGUMENTS = (0, -1, None, True, "lanes", ("places", 2), [1], {"a": ()})


class Errors(unittest.TestCase):
    def test_each_class_stands_in_its_file_with_its_direct_base(self):
        for name, base, _ in CLASSES:
            with self.subTest(name):
                error = getattr(errors, name)
                self.assertEqual(error.__name__, name)
                self.assertEqual(error.__module__, "losinglanes.errors")
                self.assertEqual(error.__bases__, (base,))

    def test_the_file_has_no_other_class(self):
        defined = [name for name, _ in inspect.getmembers(errors, inspect.isclass)]
        self.assertEqual(sorted(defined), sorted(name for name, _, _ in CLASSES))

    def made_in_all_ways(self, error, names, given):
        yield error(*given)
        yield error(**dict(zip(names, given)))
        yield error(**dict(reversed(list(zip(names, given)))))
        if len(names) == 2:
            yield error(given[0], **{names[1]: given[1]})

    def test_arguments_are_kept_under_their_names_by_place_and_by_name(self):
        for name, _, names in CLASSES:
            for at in range(len(ARGUMENTS)):
                given = (ARGUMENTS + ARGUMENTS)[at:at + len(names)]
                for error in self.made_in_all_ways(getattr(errors, name), names, given):
                    with self.subTest(name, given=given):
                        self.assertEqual(sorted(vars(error)), sorted(names))
                        for key, argument in zip(names, given):
                            self.assertIs(getattr(error, key), argument)

    def test_arguments_stay_when_the_error_is_raised(self):
        for name, base, names in CLASSES:
            given = ARGUMENTS[4:4 + len(names)]
            with self.subTest(name):
                with self.assertRaises(base) as caught:
                    raise getattr(errors, name)(*given)
                self.assertEqual(caught.exception.__class__.__name__, name)
                for key, argument in zip(names, given):
                    self.assertIs(getattr(caught.exception, key), argument)

    def test_no_argument_is_left_out_or_added(self):
        for name, _, names in CLASSES:
            error = getattr(errors, name)
            with self.subTest(name):
                with self.assertRaises(TypeError):
                    error(*ARGUMENTS[:len(names) + 1])
                if names:
                    with self.assertRaises(TypeError):
                        error(*ARGUMENTS[:len(names) - 1])


if __name__ == "__main__":
    unittest.main()
