import inspect
import unittest
from itertools import combinations, product

from losinglanes import words
from losinglanes.words import are_within, is_within, place_in


def all_words(letters, longest):
    return [word for many in range(longest + 1) for word in product(range(letters), repeat=many)]


def first_places(word, other):
    """The same as place_in, by trying all positions, the first ones first."""
    for positions in combinations(range(len(other)), len(word)):
        if all(letter <= other[at] for letter, at in zip(word, positions)):
            return positions
    return None


class Words(unittest.TestCase):
    def check(self, word, other, positions):
        with self.subTest(word=word[:9], other=other[:9]):
            found = place_in(word, other)
            self.assertEqual(found, positions)
            if positions is None:
                self.assertIs(is_within(word, other), False)
            else:
                self.assertIs(type(found), tuple)
                self.assertEqual([type(at) for at in found], [int] * len(word))
                self.assertIs(is_within(word, other), True)

    def test_example_of_the_interface(self):
        self.assertEqual(
            repr((is_within((0, 0), (0, 1, 0)), place_in((0, 1), (1, 0, 1)), is_within((1,), (0,)),
                  are_within(((), (0,)), ((0,), (0, 1))))),
            "(True, (0, 2), False, True)")

    def test_functions_stand_in_their_file(self):
        for function, names in ((is_within, ["word", "other"]), (are_within, ["words", "others"]),
                                (place_in, ["word", "other"])):
            self.assertEqual(function.__module__, words.__name__)
            self.assertEqual(list(inspect.signature(function).parameters), names)

    def test_empty_word_is_within_every_word(self):
        self.check((), (), ())
        self.check((), (0,), ())
        self.check((), (2, 1, 0), ())
        self.check((), (0,) * 600, ())

    def test_nothing_else_is_within_the_empty_word(self):
        self.check((0,), (), None)
        self.check((2, 2), (), None)
        self.check((0,) * 600, (), None)

    def test_smaller_letter_is_within_greater_and_not_the_reverse(self):
        self.check((0,), (1,), (0,))
        self.check((1,), (0,), None)
        self.check((0,), (2,), (0,))
        self.check((2,), (1,), None)
        self.check((1,), (1,), (0,))

    def test_missing_letter(self):
        self.check((0, 0), (0,), None)
        self.check((0, 0), (2,), None)
        self.check((1, 1), (1, 0), None)
        self.check((0, 1, 0), (0, 1), None)
        self.check((1, 1, 1), (1, 0, 2, 0), None)

    def test_letter_that_is_too_great(self):
        self.check((0, 2), (1, 1, 1), None)
        self.check((2, 0), (1, 1, 1), None)
        self.check((1, 2, 1), (2, 1, 2), None)

    def test_sequence_alone(self):
        self.check((1, 0), (1, 0), (0, 1))
        self.check((1, 0), (0, 1), None)
        self.check((2, 1, 0), (0, 1, 2), None)
        self.check((0, 1, 2), (2, 1, 0), None)
        self.check((0, 2), (2, 0), None)

    def test_first_positions(self):
        self.check((0, 0), (0, 0, 0, 0), (0, 1))
        self.check((0,), (1, 0), (0,))
        self.check((1,), (0, 2, 1), (1,))
        self.check((0, 1), (1, 0, 1), (0, 2))
        self.check((1, 0, 2), (0, 1, 1, 1, 2, 2), (1, 2, 4))
        self.check((2, 2), (0, 2, 1, 2, 2), (1, 3))

    def test_all_short_words(self):
        for word in all_words(3, 3):
            for other in all_words(3, 4):
                self.check(word, other, first_places(word, other))

    def test_words_of_600_letters(self):
        mixed = (0, 1, 2) * 200
        self.check(mixed, mixed, tuple(range(600)))
        self.check((0,) * 600, mixed, tuple(range(600)))
        self.check((2,) * 600, mixed, None)
        self.check((2,) * 200, mixed, tuple(range(2, 600, 3)))
        self.check((2,) * 201, mixed, None)
        self.check((0,) * 600, (0,) * 599, None)
        self.check((0,) * 599 + (1,), (0,) * 600, None)
        self.check((1,), (0,) * 599 + (1,), (599,))
        self.check((1, 0) * 300, (0, 1) * 300, None)
        self.check((1, 0) * 299 + (1,), (0, 1) * 300, tuple(range(1, 600)))

    def test_rows(self):
        self.assertIs(are_within(((0,),), ((1,),)), True)
        self.assertIs(are_within(((1,),), ((0,),)), False)
        self.assertIs(are_within(((), ()), ((), ())), True)
        self.assertIs(are_within(((0,), (1, 1)), ((0, 0), (1, 0, 2))), True)
        self.assertIs(are_within(((0,), (), (2,)), ((0,), (), (2,))), True)
        self.assertIs(are_within(((), (), ()), ((0,), (1,), (2,) * 600)), True)

    def test_rows_in_which_one_word_alone_is_not_within(self):
        right = ((0, 1), (1, 0, 1))
        for wrong in (((0, 1), (1, 0)), ((1,), (0,)), ((0,), ())):
            for many in (1, 2, 3):
                for at in range(many):
                    pairs = [wrong if k == at else right for k in range(many)]
                    with self.subTest(pairs=pairs):
                        row, others = zip(*pairs)
                        self.assertIs(are_within(row, others), False)

    def test_words_of_a_row_are_compared_with_the_one_at_the_same_place(self):
        self.assertIs(are_within(((0,), (1,)), ((1,), (0,))), False)
        self.assertIs(are_within(((), (0,)), ((0,), ())), False)
        self.assertIs(are_within(((2,), (), ()), ((), (), (2,))), False)


if __name__ == "__main__":
    unittest.main()
