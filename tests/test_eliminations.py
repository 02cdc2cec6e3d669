"""Points [25] to [27]: eliminations and clashes."""

import unittest

from rowalone.eliminations import clash, eliminated, eliminations, unlike
from rowalone.papers import point_or_paper
from rowalone.systems import System, least_form, system_of
from tests.helpers import Dice, NAMES, any_row, any_system, is_kept, points_on_grid, raised, wide_rows

CHAIN = System(("x", "y", "z"), (((0, 1, -1), 0), ((1, -1, 0), 0)))


class Eliminated(unittest.TestCase):

    def test_examples(self):
        self.assertEqual(eliminated(((2, -1), 1), ((-3, 3), 1), 0), ((0, 3), 5))
        self.assertEqual(unlike(((2, -1), 1), ((-3, 3), 1)), (0, 1))
        self.assertEqual(eliminations(CHAIN), ((0, 1, 1),))
        self.assertEqual((clash(((1,), 2), ((-1,), -1)), clash(((1,), 2), ((-1,), -2))), (True, False))

    def test_unlike(self):
        self.assertEqual(unlike(((1, 0, -2), 0), ((1, -3, 5), 0)), (2,))
        self.assertEqual(unlike(((1, 0, -2), 0), ((0, -3, 0), 0)), ())
        self.assertEqual(unlike(other=((1, 1), 0), one=((-1, -1), 7)), (0, 1))

    def test_eliminated(self):
        self.assertEqual(eliminated(((1, -1, 0), 1), ((0, 1, -1), 2), 1), ((1, 0, -1), 3))
        self.assertEqual(eliminated(((2, 4), 1), ((2, -4), 3), 1), ((1, 0), 1))
        self.assertEqual(eliminated(at=1, other=((1, -1), 0), one=((0, 1), -2)), ((1, 0), -2))
        self.assertIsNone(eliminated(((1, -1), 1), ((-1, 1), 5), 0))
        self.assertIsNone(eliminated(((2,), 1), ((-3,), 1), 0))

    def test_signs(self):
        for at in (0, 1):
            self.assertEqual(raised(eliminated, ((1, 0), 1), ((1, -1), 5), at), ("Refused", "signs"))
        self.assertEqual(raised(eliminated, ((1, -1), 1), ((0, 1), 5), 0), ("Refused", "signs"))
        self.assertEqual(raised(eliminated, ((-1, -1), 1), ((-1, 1), 5), 0), ("Refused", "signs"))

    def test_against_the_definition(self):
        dice = Dice(51)
        for _ in range(400):
            size = dice.between(1, 5)
            one, other = any_row(dice, size, 4, 5), any_row(dice, size, 4, 5)
            for at in range(size):
                if one[0][at] * other[0][at] >= 0:
                    self.assertNotIn(at, unlike(one, other))
                    self.assertEqual(raised(eliminated, one, other, at), ("Refused", "signs"))
                    continue
                self.assertIn(at, unlike(one, other))
                factor, further = abs(other[0][at]), abs(one[0][at])
                numbers = tuple(factor * a + further * b for a, b in zip(one[0], other[0]))
                row = least_form(numbers, factor * one[1] + further * other[1])
                self.assertEqual(eliminated(one, other, at), row)
                self.assertEqual(eliminated(other, one, at), row)
                if row is not None:
                    self.assertEqual(row[0][at], 0)

    def test_each_point_that_keeps_both_keeps_it(self):
        dice = Dice(52)
        points = points_on_grid(2, [(top, 1) for top in range(-4, 5)] + [(1, 2), (-3, 2)])
        for _ in range(60):
            one, other = any_row(dice, 2, 3, 4), any_row(dice, 2, 3, 4)
            for at in unlike(one, other):
                row = eliminated(one, other, at)
                for point in points:
                    if is_kept(one, point) and is_kept(other, point):
                        self.assertTrue(row is None or is_kept(row, point))


class Clashes(unittest.TestCase):

    def test_clashes(self):
        self.assertIs(clash(((1, -1), 1), ((-1, 1), 0)), True)
        self.assertIs(clash(((1, -1), 1), ((-1, 1), -1)), False)
        self.assertIs(clash(((2, -2), 1), ((-3, 3), -1)), True)
        self.assertIs(clash(((2, -2), 1), ((-3, 3), -2)), False)
        self.assertIs(clash(((1, -1), 100), ((-1, 2), 100)), False)
        self.assertIs(clash(other=((1, 1), 100), one=((1, 1), 99)), False)

    def test_exactly_if_no_point_keeps_both(self):
        dice = Dice(53)
        seen = {True: 0, False: 0}
        for _ in range(600):
            size = dice.between(1, 3)
            one, other = any_row(dice, size, 2, 3), any_row(dice, size, 2, 3)
            if dice.chance(1, 2):
                other = least_form(tuple(-2 * number for number in one[0]), dice.between(-6, 6))
            found = point_or_paper(system_of(NAMES[:size], (one, other)), ((None, None),) * size)
            seen[found[0] == "paper"] += 1
            self.assertIs(clash(one, other), found[0] == "paper")
            self.assertIs(clash(other, one), found[0] == "paper")
            places = [at for at in unlike(one, other) if eliminated(one, other, at) is None]
            bounds = [abs(other[0][at]) * one[1] + abs(one[0][at]) * other[1] for at in places]
            self.assertIs(any(bound > 0 for bound in bounds), clash(one, other))
        self.assertGreater(min(seen.values()), 50)


class Triples(unittest.TestCase):

    def test_all_triples(self):
        dice = Dice(54)
        for _ in range(100):
            system = any_system(dice, dice.between(1, 4), dice.between(0, 8), 2, 3)
            expected = []
            for at in range(len(system.names)):
                for one, row in enumerate(system.rows):
                    for other, further in enumerate(system.rows):
                        if row[0][at] > 0 > further[0][at]:
                            expected.append((one, other, at))
            self.assertEqual(eliminations(system), tuple(sorted(expected)))

    def test_none(self):
        self.assertEqual(eliminations(System(("x",), ())), ())
        self.assertEqual(eliminations(System(("x", "y"), wide_rows(60))), ())

    def test_three_thousand_and_one_more(self):
        # 30 rows with -1 and 30 with 1 at the first name make 900 triples; the other names make the rest.
        self.assertEqual(len(eliminations(with_triples((30, 30), (30, 30), (30, 30), (12, 25)))), 3000)
        self.assertEqual(raised(eliminations, with_triples((30, 30), (30, 30), (30, 30), (7, 43))),
                         ("Refused", "wide"))
        self.assertEqual(sum(one * other for one, other in ((30, 30), (30, 30), (30, 30), (7, 43))), 3001)
        self.assertEqual(raised(eliminations, with_triples(*[(30, 30)] * 5)), ("Refused", "wide"))


def with_triples(*counts):
    """A system of 60 rows with so many positive and so many negative coefficients at each name."""
    rows = []
    for number in range(60):
        signs = [1 if number < one else -1 if number < one + other else 0 for one, other in counts]
        rows.append((tuple([*signs, 100 + number]), 1))
    return System(NAMES[:len(counts) + 1], tuple(sorted(rows)))


if __name__ == "__main__":
    unittest.main()
