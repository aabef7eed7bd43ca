"""Point 4, and what point 2 says of integers and fractions."""

import copy
import fractions as python_fractions
import unittest

from samples import any_values, raised, same
from tiesums.errors import BadFractions, BadNumber
from tiesums.fractions import fraction, total

NO_INTEGERS = [value for value in any_values() if type(value) is not int]
NO_FRACTIONS = [
    (0, 2), (2, 4), (-2, 4), (6, 3), (0, 0), (1, 0), (1, -1), (-1, -2), (0, -1),
    (1,), (), (1, 2, 3), (1, 2, 1), [1, 2], "12", "ab", None, True, 1, 0, {1: 2, 2: 1},
    (True, 1), (False, 1), (1, True), (True, True), (True, 2), ("1", 1), (1, "1"), (1, None), (None, 1),
    ((1, 1), 1), (1, (1, 1)), ((1, 1), (1, 1)), ([1], 2),
]
NO_TUPLES = [None, True, False, 0, 1, "", "a", [], [(1, 2)], [1, 2], {}, {(1, 2): (1, 2)}]


class Fraction(unittest.TestCase):

    def check(self, got, wanted):
        self.assertTrue(same(got, wanted), f"{got!r} instead of {wanted!r}")

    def test_common_divisors_are_cut(self):
        self.check(fraction(6, 4), (3, 2))
        self.check(fraction(12, 18), (2, 3))
        self.check(fraction(100, 10), (10, 1))
        self.check(fraction(5, 5), (1, 1))
        self.check(fraction(3, 7), (3, 7))

    def test_below_zero(self):
        self.check(fraction(6, -4), (-3, 2))
        self.check(fraction(-6, 4), (-3, 2))
        self.check(fraction(-6, -4), (3, 2))
        self.check(fraction(1, -1), (-1, 1))
        self.check(fraction(-7, 3), (-7, 3))

    def test_zero_as_top(self):
        for low in (1, 2, 7, -1, -5, 10 ** 11):
            self.check(fraction(0, low), (0, 1))
        self.check(fraction(0), (0, 1))

    def test_low_left_out(self):
        for top in (0, 1, -1, 5, -12, 10 ** 12 - 1):
            self.check(fraction(top), (top, 1))

    def test_all_small_ones(self):
        for top in range(-13, 14):
            for low in range(-13, 14):
                if low:
                    wanted = python_fractions.Fraction(top, low)
                    self.check(fraction(top, low), (wanted.numerator, wanted.denominator))

    def test_great_ones(self):
        big = 2 ** 200
        self.check(fraction(big * 3, big * -6), (-1, 2))
        self.check(fraction(999999999999, 999999999998), (999999999999, 999999999998))

    def test_by_name(self):
        self.check(fraction(top=6, low=-4), (-3, 2))
        self.check(fraction(low=-4, top=6), (-3, 2))
        self.check(fraction(6, low=4), (3, 2))
        self.check(fraction(top=6), (6, 1))

    def test_low_zero(self):
        self.check(raised(BadNumber, fraction, 1, 0), 0)
        self.check(raised(BadNumber, fraction, 0, 0), 0)
        self.check(raised(BadNumber, fraction, low=0, top=5), 0)

    def test_no_integer_as_top(self):
        for value in NO_INTEGERS:
            self.assertIs(raised(BadNumber, fraction, value), value)
            self.assertIs(raised(BadNumber, fraction, value, 3), value)

    def test_no_integer_as_low(self):
        for value in NO_INTEGERS:
            self.assertIs(raised(BadNumber, fraction, 3, value), value)
            self.assertIs(raised(BadNumber, fraction, 0, low=value), value)

    def test_top_is_told_ahead_of_low(self):
        for value in NO_INTEGERS:
            self.assertIs(raised(BadNumber, fraction, value, 0), value)
            self.assertIs(raised(BadNumber, fraction, value, None), value)
            self.assertIs(raised(BadNumber, fraction, low="x", top=value), value)

    def test_low_none_is_not_left_out(self):
        self.assertIsNone(raised(BadNumber, fraction, 1, None))


class Total(unittest.TestCase):

    def check(self, got, wanted):
        self.assertTrue(same(got, wanted), f"{got!r} instead of {wanted!r}")

    def test_none(self):
        self.check(total(()), (0, 1))
        self.check(total((), ()), (0, 1))
        self.check(total((), None), (0, 1))

    def test_one(self):
        self.check(total(((3, 4),)), (3, 4))
        self.check(total(((3, 4),), ((2, 3),)), (1, 2))
        self.check(total(((3, 4),), ((0, 1),)), (0, 1))
        self.check(total(((0, 1),), ((5, 3),)), (0, 1))
        self.check(total(((-3, 4),), ((-4, 3),)), (1, 1))

    def test_many_without_weights(self):
        self.check(total(((1, 2), (1, 3))), (5, 6))
        self.check(total(((1, 2), (1, 3), (1, 6))), (1, 1))
        self.check(total(((1, 6), (1, 6), (1, 6))), (1, 2))
        self.check(total(((1, 2), (1, 3)), None), (5, 6))

    def test_sums_of_zero(self):
        self.check(total(((1, 2), (-1, 2))), (0, 1))
        self.check(total(((1, 2), (1, 3)), ((2, 1), (-3, 1))), (0, 1))
        self.check(total(((0, 1),) * 5), (0, 1))
        self.check(total(((1, 3), (1, 6), (-1, 2))), (0, 1))

    def test_weights(self):
        self.check(total(((1, 2), (1, 3)), ((1, 1), (-3, 1))), (-1, 2))
        self.check(total(((1, 2), (1, 3)), ((1, 1), (1, 1))), (5, 6))
        self.check(total(((2, 3), (3, 4), (-5, 6)), ((3, 2), (4, 3), (6, 5))), (1, 1))
        self.check(total(((7, 1), (9, 1)), ((0, 1), (1, 9))), (1, 1))

    def test_against_pythons_own(self):
        row = [(top, low) for low in range(1, 7) for top in range(-6, 7) if fraction(top, low) == (top, low)]
        for start in range(len(row)):
            for many in (1, 2, 5, 9):
                some = tuple((row + row)[start:start + many])
                weights = tuple(reversed((row + row)[2 * start:2 * start + many]))[:len(some)]
                some = some[:len(weights)]
                wanted = sum(
                    [python_fractions.Fraction(*a) * python_fractions.Fraction(*b) for a, b in zip(some, weights)],
                    start=python_fractions.Fraction(0))
                self.check(total(some, weights), (wanted.numerator, wanted.denominator))

    def test_sixty(self):
        some = tuple((1, low) for low in range(1, 61))
        wanted = sum([python_fractions.Fraction(1, low) for low in range(1, 61)])
        self.check(total(some), (wanted.numerator, wanted.denominator))
        self.check(total(some, tuple((low, 1) for low in range(1, 61))), (60, 1))

    def test_by_name(self):
        self.check(total(fractions=((1, 2),), weights=((4, 1),)), (2, 1))
        self.check(total(weights=((4, 1),), fractions=((1, 2),)), (2, 1))
        self.check(total(fractions=((1, 2), (1, 2))), (1, 1))

    def test_no_tuple_of_fractions(self):
        for value in NO_TUPLES:
            self.assertIs(raised(BadFractions, total, value), value)
            self.assertIs(raised(BadFractions, total, value, ()), value)

    def test_no_fraction_among_fractions(self):
        for value in NO_FRACTIONS:
            for some in ((value,), (value, (1, 2)), ((1, 2), (0, 1), value)):
                self.assertIs(raised(BadFractions, total, some), some)
                self.assertIs(raised(BadFractions, total, some, ((1, 1),) * len(some)), some)

    def test_a_fraction_is_no_tuple_of_fractions(self):
        self.assertEqual(raised(BadFractions, total, (1, 2)), (1, 2))

    def test_no_tuple_of_weights(self):
        for value in NO_TUPLES:
            if value is not None:
                self.assertIs(raised(BadFractions, total, ((1, 2),), value), value)
                self.assertIs(raised(BadFractions, total, (), value), value)

    def test_no_fraction_among_weights(self):
        for value in NO_FRACTIONS:
            for some in ((value,), (value, (1, 2)), ((1, 2), (0, 1), value)):
                self.assertIs(raised(BadFractions, total, ((1, 2),) * len(some), some), some)

    def test_weights_of_another_length(self):
        some = ((1, 2), (1, 3))
        for weights in ((), ((1, 1),), ((1, 1),) * 3, ((0, 1),) * 60):
            self.assertIs(raised(BadFractions, total, some, weights), weights)
        self.assertEqual(raised(BadFractions, total, (), ((1, 1),)), ((1, 1),))

    def test_fractions_are_told_ahead_of_weights(self):
        for value in NO_FRACTIONS:
            some = ((1, 2), value)
            for weights in ([], ((0, 2), (1, 1)), (), "x", (True,)):
                self.assertIs(raised(BadFractions, total, some, weights), some)
                self.assertIs(raised(BadFractions, total, weights=weights, fractions=some), some)

    def test_any_value_that_is_no_tuple_of_fractions(self):
        for value in any_values():
            if not same(value, ()):
                self.assertIs(raised(BadFractions, total, value), value)
                if value is not None:
                    self.assertIs(raised(BadFractions, total, ((1, 1),), value), value)

    def test_arguments_are_not_changed(self):
        for some in ([(1, 2), [3]], {"a": [(1, 2)]}):
            before = copy.deepcopy(some)
            raised(BadFractions, total, some)
            raised(BadFractions, total, ((1, 2),), some)
            self.assertEqual(some, before)

    def test_equal_calls_return_equal_results(self):
        some, weights = ((1, 2), (2, 3)), ((3, 1), (-1, 5))
        self.assertEqual(total(some, weights), total(some, weights))


if __name__ == "__main__":
    unittest.main()
