"""Least sums over the points that keep some rows, which points [20] to [24] rest on."""

import unittest
from fractions import Fraction
from unittest import mock

from rowalone import programs
from rowalone.programs import least_over, point_beyond, point_or_shares
from tests.helpers import Dice, frac, is_kept, sum_at


def any_rows(dice, size, many, limit):
    """Rows of any kind: equal ones, multiples, opposites, and some without coefficients."""
    rows = []
    for _ in range(many):
        if rows and dice.chance(1, 4):
            factor = dice.pick((-2, -1, 1, 2))
            numbers, bound = dice.pick(rows)
            rows.append((tuple(factor * number for number in numbers), factor * bound + dice.between(-1, 1)))
        else:
            numbers = tuple(dice.between(-limit, limit) if dice.chance(2, 3) else 0 for _ in range(size))
            rows.append((numbers, dice.between(-limit, limit)))
    return rows


class Programs(unittest.TestCase):

    def given(self, size, rows, shares):
        self.assertEqual(len(shares), len(rows))
        self.assertTrue(all(share[0] >= 0 for share in shares))
        numbers = [sum((row[0][at] * frac(s) for row, s in zip(rows, shares)), Fraction(0)) for at in range(size)]
        return numbers, sum((row[1] * frac(share) for row, share in zip(rows, shares)), Fraction(0))

    def check_point(self, size, rows, point):
        self.assertEqual(len(point), size)
        self.assertTrue(all(is_kept(row, point) for row in rows))

    def check_empty(self, size, rows, shares):
        numbers, bound = self.given(size, rows, shares)
        self.assertEqual(numbers, [0] * size)
        self.assertGreater(bound, 0)
        self.assertLessEqual(sum(share[0] > 0 for share in shares), size + 1)

    def check(self, size, rows, goal):
        word, found = point_or_shares(size, rows)
        if word == "point":
            self.check_point(size, rows, found)
        else:
            self.check_empty(size, rows, found)
        told, point, shares = least_over(size, rows, goal)
        self.assertEqual(told == "none", word == "shares")
        if told == "none":
            self.assertIsNone(point)
            self.check_empty(size, rows, shares)
            return told
        self.check_point(size, rows, point)
        if told == "least":
            numbers, bound = self.given(size, rows, shares)
            self.assertEqual(numbers, list(goal))
            self.assertEqual(bound, sum_at((goal, 0), point))
            self.assertLessEqual(sum(share[0] > 0 for share in shares), size)
        else:
            self.assertIsNone(shares)
            below = (tuple(-number for number in goal), 10 ** 9)
            self.assertEqual(point_or_shares(size, rows + [below])[0], "point")
        return told

    def test_any_rows(self):
        dice = Dice(91)
        seen = {"least": 0, "endless": 0, "none": 0}
        for _ in range(1500):
            size = dice.between(1, 4)
            rows = any_rows(dice, size, dice.between(0, 7), dice.pick((1, 2, 5)))
            goal = tuple(dice.between(-2, 2) for _ in range(size))
            seen[self.check(size, rows, goal)] += 1
        self.assertGreater(min(seen.values()), 100)

    def test_many_rows_of_great_numbers(self):
        dice = Dice(92)
        for _ in range(20):
            rows = any_rows(dice, 6, 72, 10 ** 6)
            self.check(6, rows, tuple(dice.between(-5, 5) for _ in range(6)))
            near = [(numbers, -abs(bound)) for numbers, bound in rows]
            self.check(6, near, tuple(dice.between(-5, 5) for _ in range(6)))

    def test_least_sums(self):
        rows = [((1, 0), 1), ((0, 1), 2), ((1, 1), 4), ((2, 2), 8), ((-1, 0), -9)]
        word, point, shares = least_over(2, rows, (3, 2))
        self.assertEqual((word, sum_at(((3, 2), 0), point)), ("least", 9))
        self.assertEqual(self.given(2, rows, shares), ([3, 2], 9))
        self.assertEqual(least_over(2, rows, (0, -1))[0], "endless")
        self.assertEqual(least_over(2, rows, (-1, 0))[1][0], (9, 1))

    def test_sums_without_a_row(self):
        self.assertEqual(least_over(2, [], (0, 1))[0], "endless")
        self.assertEqual(least_over(2, [], (0, 0)), ("least", ((0, 1), (0, 1)), ()))
        self.assertEqual(least_over(2, [((1, 0), 3)], (0, 1))[0], "endless")
        self.assertEqual(least_over(1, [((0,), 1)], (1,)), ("none", None, ((1, 1),)))

    def test_rows_beside_an_endless_way(self):
        # The rows on x do not change along the way on which the sum falls without end.
        rows = [((1, 0), 1), ((2, 0), 1), ((3, 0), 2), ((0, 1), 0), ((0, 2), -5)]
        self.assertEqual(least_over(2, rows, (1, -1))[0], "endless")
        self.assertEqual(least_over(2, rows, (1, 1))[0], "least")

    def test_points_where_many_rows_meet(self):
        dice = Dice(93)
        for _ in range(200):
            size = dice.between(2, 5)
            rows = [(numbers, 0) for numbers, _ in any_rows(dice, size, 14, 2)]
            self.check(size, rows, tuple(dice.between(-2, 2) for _ in range(size)))

    def test_points_beyond_a_row(self):
        dice = Dice(95)
        seen = {True: 0, False: 0}
        for _ in range(600):
            size = dice.between(1, 3)
            rows = any_rows(dice, size, dice.between(0, 5), 2)
            row = (tuple(dice.between(-2, 2) for _ in range(size)), dice.between(-3, 3))
            point = point_beyond(size, rows, row)
            seen[point is None] += 1
            if point is None:
                told, least, _ = least_over(size, rows, row[0])
                self.assertTrue(told == "none" or (told == "least" and is_kept(row, least)))
            else:
                self.check_point(size, rows, point)
                self.assertFalse(is_kept(row, point))
        self.assertGreater(min(seen.values()), 100)

    def test_first_labels_alone(self):
        # After so many exchanges only first labels are taken, which must lead to an end as well.
        dice = Dice(94)
        for quick in (0, 1, 3):
            with mock.patch.object(programs, "QUICK", quick):
                for _ in range(300):
                    size = dice.between(1, 4)
                    rows = any_rows(dice, size, dice.between(0, 9), dice.pick((1, 2, 5)))
                    rows = [(numbers, 0) for numbers, _ in rows] if dice.chance(1, 3) else rows
                    self.check(size, rows, tuple(dice.between(-2, 2) for _ in range(size)))


if __name__ == "__main__":
    unittest.main()
