"""A base for tests that tell exactly what a call returns, raises and leaves as it was."""

import inspect
import unittest


class Calls(unittest.TestCase):
    def stands_in(self, module, function, signature):
        self.assertEqual(function.__module__, module.__name__)
        self.assertEqual(str(inspect.signature(function)), signature)

    def plain(self, value):
        """To Python True is 1, and a tuple of an own kind is a tuple: so each kind is looked at."""
        self.assertIn(type(value), (tuple, int, bool, str, type(None)))
        if type(value) is tuple:
            for part in value:
                self.plain(part)

    def told(self, value, expected):
        self.plain(value)
        self.assertEqual(repr(value), repr(expected))

    def gives(self, expected, function, *given, **named):
        with self.subTest(function=function.__name__, expected=str(expected)[:200]):
            before = repr((given, named))
            self.told(function(*given, **named), expected)
            self.assertEqual(repr((given, named)), before)

    def raises(self, error, parts, function, *given, **named):
        with self.subTest(function=function.__name__, error=error.__name__, parts=parts):
            before = repr((given, named))
            with self.assertRaises(error) as caught:
                function(*given, **named)
            self.assertIs(type(caught.exception), error)
            self.assertEqual(repr(vars(caught.exception)), repr(parts))
            self.assertEqual(repr((given, named)), before)
