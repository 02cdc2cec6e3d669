"""Points [1] and [6]: fractions."""

import unittest
from fractions import Fraction
from math import floor, ceil

from rowalone import fractions
from rowalone.fractions import simplest
from tests.helpers import Dice, any_fraction, frac, no_fractions, odd_values, pair, raised


def some_fractions(dice, many, size):
    return [any_fraction(dice, size) for _ in range(many)]


class Making(unittest.TestCase):

    def test_quotients(self):
        self.assertEqual(fractions.fraction_of(6, 4), (3, 2))
        self.assertEqual(fractions.fraction_of(-6, 4), (-3, 2))
        self.assertEqual(fractions.fraction_of(6, -4), (-3, 2))
        self.assertEqual(fractions.fraction_of(-6, -4), (3, 2))
        self.assertEqual(fractions.fraction_of(0, -7), (0, 1))
        self.assertEqual(fractions.fraction_of(7, 1), (7, 1))
        for top in range(-12, 13):
            for bottom in list(range(-12, 0)) + list(range(1, 13)):
                self.assertEqual(fractions.fraction_of(top, bottom), pair(Fraction(top, bottom)))

    def test_great_quotients(self):
        self.assertEqual(fractions.fraction_of(10 ** 9, 10 ** 9 - 1), (10 ** 9, 10 ** 9 - 1))
        self.assertEqual(fractions.fraction_of(3 * 10 ** 60, -9 * 10 ** 59), (-10, 3))

    def test_a_bottom_of_zero(self):
        for top in (-1, 0, 5):
            self.assertEqual(raised(fractions.fraction_of, top, 0), ("InvalidNumber", "zero"))

    def test_parameters_by_name(self):
        self.assertEqual(fractions.fraction_of(bottom=4, top=2), (1, 2))
        self.assertEqual(fractions.minus(other=(1, 2), one=(1, 1)), (1, 2))
        self.assertEqual(fractions.least_of(some=((1, 2),)), (1, 2))
        self.assertEqual(fractions.weighed(point=((1, 2),), coefficients=(3,)), (3, 2))
        self.assertEqual(fractions.simplest(high=None, low=(1, 2)), (1, 1))


class Telling(unittest.TestCase):

    def test_fractions(self):
        for value in ((0, 1), (1, 1), (-1, 1), (3, 2), (-3, 2), (10 ** 9, 10 ** 9 - 1), (10 ** 40, 7)):
            self.assertIs(fractions.is_fraction(value), True)

    def test_other_values(self):
        for value in odd_values() + no_fractions():
            self.assertIs(fractions.is_fraction(value), False, value)

    def test_all_small_tuples(self):
        for top in range(-6, 7):
            for bottom in range(-6, 7):
                expected = bottom > 0 and pair(Fraction(top, bottom)) == (top, bottom)
                self.assertIs(fractions.is_fraction((top, bottom)), expected)


class Reckoning(unittest.TestCase):

    def test_sums_differences_products_quotients(self):
        dice = Dice(1)
        for size in (3, 12, 10 ** 9):
            for _ in range(300):
                one = any_fraction(dice, size)
                other = any_fraction(dice, size)
                self.assertEqual(fractions.plus(one, other), pair(frac(one) + frac(other)))
                self.assertEqual(fractions.minus(one, other), pair(frac(one) - frac(other)))
                self.assertEqual(fractions.times(one, other), pair(frac(one) * frac(other)))
                self.assertIs(fractions.less(one, other), frac(one) < frac(other))
                if other != (0, 1):
                    self.assertEqual(fractions.ratio(one, other), pair(frac(one) / frac(other)))

    def test_results_are_fractions(self):
        self.assertEqual(fractions.plus((1, 2), (-1, 2)), (0, 1))
        self.assertEqual(fractions.ratio((1, 2), (-1, 3)), (-3, 2))
        self.assertEqual(fractions.times((2, 3), (3, 2)), (1, 1))
        self.assertIs(fractions.less((1, 2), (1, 2)), False)

    def test_a_quotient_by_zero(self):
        self.assertEqual(raised(fractions.ratio, (1, 2), (0, 1)), ("InvalidNumber", "zero"))
        self.assertEqual(raised(fractions.ratio, (0, 1), (0, 1)), ("InvalidNumber", "zero"))
        self.assertEqual(fractions.ratio((0, 1), (-5, 2)), (0, 1))

    def test_least_and_greatest(self):
        dice = Dice(2)
        for _ in range(200):
            some = tuple(some_fractions(dice, dice.between(1, 6), 9))
            self.assertEqual(frac(fractions.least_of(some)), min(map(frac, some)))
            self.assertEqual(frac(fractions.greatest_of(some)), max(map(frac, some)))

    def test_least_and_greatest_of_none(self):
        self.assertEqual(raised(fractions.least_of, ()), ("Refused", "none"))
        self.assertEqual(raised(fractions.greatest_of, ()), ("Refused", "none"))

    def test_weighed(self):
        self.assertEqual(fractions.weighed((2, -3), ((1, 2), (1, 3))), (0, 1))
        self.assertEqual(fractions.weighed((0, 0), ((1, 2), (1, 3))), (0, 1))
        self.assertEqual(fractions.weighed((), ()), (0, 1))
        dice = Dice(3)
        for size in (5, 10 ** 9):
            for _ in range(200):
                many = dice.between(1, 6)
                numbers = tuple(dice.between(-size, size) for _ in range(many))
                point = tuple(some_fractions(dice, many, size))
                expected = sum((number * frac(value) for number, value in zip(numbers, point)), Fraction(0))
                self.assertEqual(fractions.weighed(numbers, point), pair(expected))


def in_range(low, high, limit):
    """All of Python's fractions between two ends with a bottom and a size of the top up to a limit."""
    found = []
    for bottom in range(1, limit + 1):
        first = -limit if low is None else max(-limit, ceil(frac(low) * bottom))
        last = limit if high is None else min(limit, floor(frac(high) * bottom))
        found += [Fraction(top, bottom) for top in range(first, last + 1)]
    return found


class Simplest(unittest.TestCase):

    def test_examples(self):
        self.assertEqual(simplest((31, 10), (16, 5)), (16, 5))
        self.assertEqual(simplest((-7, 2), (-10, 3)), (-7, 2))
        self.assertEqual(simplest((-1, 2), None), (0, 1))

    def test_missing_ends(self):
        self.assertEqual(simplest(None, None), (0, 1))
        self.assertEqual(simplest((5, 2), None), (3, 1))
        self.assertEqual(simplest((3, 1), None), (3, 1))
        self.assertEqual(simplest(None, (-5, 2)), (-3, 1))
        self.assertEqual(simplest(None, (-3, 1)), (-3, 1))
        self.assertEqual(simplest(None, (5, 2)), (0, 1))

    def test_equal_and_crossed_ends(self):
        self.assertEqual(simplest((22, 7), (22, 7)), (22, 7))
        self.assertEqual(simplest((0, 1), (0, 1)), (0, 1))
        self.assertEqual(raised(simplest, (1, 2), (1, 3)), ("Refused", "none"))
        self.assertEqual(raised(simplest, (-1, 3), (-1, 2)), ("Refused", "none"))

    def test_exactly_one_has_both(self):
        dice = Dice(4)
        for _ in range(400):
            low, high = sorted(some_fractions(dice, 2, 12), key=frac)
            some = in_range(low, high, 40)
            bottom = min(value.denominator for value in some)
            top = min(abs(value.numerator) for value in some)
            best = [value for value in set(some) if (abs(value.numerator), value.denominator) == (top, bottom)]
            self.assertEqual([pair(value) for value in best], [simplest(low, high)])

    def test_missing_ends_against_all(self):
        dice = Dice(5)
        for _ in range(100):
            end = any_fraction(dice, 9)
            for low, high in ((end, None), (None, end)):
                some = in_range(low, high, 12)
                least = min(some, key=lambda value: (value.denominator, abs(value.numerator)))
                self.assertEqual(simplest(low, high), pair(least))

    def test_ends_up_to_the_limit_and_beyond(self):
        dice = Dice(6)
        for size in (10 ** 9, 10 ** 40):
            for _ in range(100):
                low, high = sorted(some_fractions(dice, 2, size), key=frac)
                middle = simplest(low, high)
                self.assertTrue(fractions.is_fraction(middle))
                self.assertTrue(frac(low) <= frac(middle) <= frac(high))
                # No fraction with a lesser bottom lies within.
                below = middle[1] - 1
                if 0 < below < 2000:
                    self.assertEqual(simplest_bottom(low, high, below), None)

    def test_a_long_chain_of_parts(self):
        one, other = 1, 1
        for _ in range(2000):
            one, other = one + other, one
        low, high = sorted([fractions.fraction_of(one, other), fractions.fraction_of(one + other, one)], key=frac)
        self.assertIn(simplest(low, high), (low, high))


def simplest_bottom(low, high, most):
    for bottom in range(1, most + 1):
        if ceil(frac(low) * bottom) <= floor(frac(high) * bottom):
            return bottom
    return None


if __name__ == "__main__":
    unittest.main()
