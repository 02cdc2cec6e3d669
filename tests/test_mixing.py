"""Point [55]: hulls of difference rows, mixed points and medians."""

import unittest

from rowalone.boxes import free_box
from rowalone.closing import are_alike, least_single
from rowalone.differences import arc_of, arc_row, closed_differences
from rowalone.mixing import difference_hull, median, median_failure, mixed, mixing_failure
from rowalone.papers import point_or_paper
from rowalone.ranges import least_sum
from rowalone.systems import System, system_of
from rowalone.texts import read_system, show_system
from tests.helpers import (Dice, NAMES, any_fraction, any_row, any_system, frac, is_kept, loose_system, pair, raised)

ZERO = (0, 1)
BARRED = read_system("x >= 1\nx <= 0\nx + y + z >= 0")


def is_solution(system, point):
    return all(is_kept(row, point) for row in system.rows)


def has_solution(system):
    return point_or_paper(system, free_box(system))[0] == "point"


def any_differences(dice, size, many):
    rows = []
    for _ in range(many):
        one, other = dice.below(size + 1), dice.below(size + 1)
        if one != other:
            rows.append(arc_row(size, (one, other, any_fraction(dice, 4))))
    return system_of(NAMES[:size], tuple(rows))


def by_hand(point, other, shift):
    points = [(frac(one), frac(two)) for one, two in zip(point, other)]
    step = frac(shift)
    return (tuple(pair(max(one, two - step)) for one, two in points),
            tuple(pair(min(one + step, two)) for one, two in points))


def any_case(dice):
    """A system with a solution, whose rows have few unknowns half of the time."""
    while True:
        size = dice.between(1, 4)
        system = any_system(dice, size, dice.between(0, 5), 2, 2)
        if dice.chance(1, 2):
            rows = tuple(row for row in system.rows if sum(number != 0 for number in row[0]) < 3)
            system = System(system.names, rows)
        if dice.chance(1, 4):
            system = any_differences(dice, size, dice.between(0, 6))
        if has_solution(system):
            return system


class Errors(unittest.TestCase):

    def test_systems_without_a_solution(self):
        for call in (difference_hull, mixing_failure, median_failure):
            self.assertEqual(raised(call, BARRED), ("Refused", "none"))
            self.assertEqual(raised(call, read_system("x - y >= 1\ny - x >= 0")), ("Refused", "none"))

    def test_wide(self):
        wide = loose_system(Dice(621), 4, 60, 10 ** 3, 10 ** 4)
        self.assertEqual(raised(median_failure, wide), ("Refused", "wide"))
        self.assertIsNone(raised(difference_hull, wide))
        self.assertIsNone(raised(mixing_failure, wide))


class Hulls(unittest.TestCase):

    def test_ordinary_inputs(self):
        self.assertEqual(show_system(difference_hull(read_system("x + y >= 2\nx <= 3\ny <= 1"))),
                         "-x >= -3\n-y >= -1\ny >= -1\nx >= 1")
        self.assertEqual(difference_hull(read_system("x + y >= 0")), System(("x", "y"), ()))
        self.assertEqual(difference_hull(system=System(("x",), ())), System(("x",), ()))
        self.assertEqual(show_system(difference_hull(read_system("2 x - y >= 0\nx >= 0"))), "x >= 0")

    def test_by_least_sums(self):
        dice = Dice(622)
        checked = 0
        while checked < 80:
            system = any_case(dice)
            size = len(system.names)
            checked += 1
            rows = []
            for one in range(size + 1):
                for other in range(size + 1):
                    if one != other:
                        numbers = tuple((at == one) - (at == other) for at in range(size))
                        found = least_sum(system, free_box(system), numbers)
                        if found is not None:
                            rows.append(arc_row(size, (one, other, found[0])))
            hull = difference_hull(system)
            self.assertEqual(hull, least_single(system_of(system.names, tuple(rows))))
            for row in hull.rows:
                self.assertIsNone(raised(arc_of, row))
                self.assertGreaterEqual(frac(least_sum(system, free_box(system), row[0])[0]), row[1])

    def test_systems_of_difference_rows(self):
        dice = Dice(623)
        for _ in range(60):
            system = any_differences(dice, dice.between(1, 4), dice.between(0, 6))
            if has_solution(system):
                self.assertEqual(difference_hull(system), closed_differences(system))
                self.assertIsNone(mixing_failure(system))

    def test_six_names(self):
        system = System(NAMES, tuple(sorted(((0,) * at + (1, -1) + (0,) * (4 - at), 1) for at in range(5))))
        self.assertEqual(len(difference_hull(system).rows), 15)
        rows = [((1, 1, 1, 1, 1, 1), -6)] + [(tuple(-(at == place) for at in range(6)), -place) for place in range(6)]
        hull = difference_hull(system_of(NAMES, tuple(rows)))
        self.assertEqual(len(hull.rows), 12)


class Mixed(unittest.TestCase):

    def test_ordinary_inputs(self):
        self.assertEqual(mixed((ZERO, (5, 1)), ((3, 1), (1, 2)), (1, 1)), (((2, 1), (5, 1)), ((1, 1), (1, 2))))
        self.assertEqual(mixed(shift=ZERO, other=((3, 1),), point=((1, 1),)), (((3, 1),), ((1, 1),)))

    def test_by_the_words(self):
        dice = Dice(624)
        for _ in range(200):
            size = dice.between(1, 6)
            point, other = (tuple(any_fraction(dice, 5) for _ in range(size)) for _ in range(2))
            shift = any_fraction(dice, 4)
            shift = (abs(shift[0]), shift[1])
            self.assertEqual(mixed(point, other, shift), by_hand(point, other, shift))

    def test_failures(self):
        dice = Dice(625)
        seen = {True: 0, False: 0}
        for _ in range(250):
            system = any_case(dice)
            found = mixing_failure(system=system)
            alike = are_alike(difference_hull(system), system)
            seen[alike] += 1
            self.assertEqual(found is None, alike)
            if found is not None:
                point, other, shift = found
                self.assertTrue(is_solution(system, point) and is_solution(system, other))
                self.assertGreaterEqual(frac(shift), 0)
                points = by_hand(point, other, shift)
                self.assertFalse(is_solution(system, points[0]) and is_solution(system, points[1]))
        self.assertGreater(min(seen.values()), 50)

    def test_mixed_solutions_of_difference_rows_are_solutions(self):
        dice = Dice(626)
        for _ in range(60):
            system = any_differences(dice, dice.between(1, 3), dice.between(0, 5))
            if has_solution(system):
                points = []
                for _ in range(6):
                    goal = tuple(dice.between(-3, 3) for _ in system.names)
                    found = least_sum(system, free_box(system), goal)
                    points += [found[1]] if found is not None else []
                for point in points:
                    for other in points:
                        for step in ((0, 1), (1, 2), (3, 1)):
                            for one in mixed(point, other, step):
                                self.assertTrue(is_solution(system, one))

    def test_single_failures(self):
        # Each of the two mixed points may be the one that is no solution.
        for text in ("x + y >= 0", "x + y <= 0", "x - 2 y >= 0", "2 x - y >= 0", "x + y + z = 0", "x - y - z >= 1"):
            system = read_system(text)
            point, other, shift = mixing_failure(system)
            self.assertTrue(is_solution(system, point) and is_solution(system, other))
            self.assertFalse(all(is_solution(system, one) for one in by_hand(point, other, shift)))

    def test_six_names(self):
        dice = Dice(627)
        system = loose_system(dice, 6, 60, 10 ** 6, 10 ** 6)
        point, other, shift = mixing_failure(system)
        self.assertTrue(is_solution(system, point) and is_solution(system, other))
        self.assertFalse(all(is_solution(system, one) for one in by_hand(point, other, shift)))


class Medians(unittest.TestCase):

    def test_ordinary_inputs(self):
        self.assertEqual(median(((1, 1), ZERO), ((2, 1), (1, 2)), ((3, 1), (1, 3))), ((2, 1), (1, 3)))
        self.assertEqual(median(three=(ZERO,), two=((1, 1),), one=(ZERO,)), (ZERO,))

    def test_by_the_words(self):
        dice = Dice(628)
        for _ in range(300):
            points = [tuple(any_fraction(dice, 4) for _ in range(2)) for _ in range(3)]
            middle = tuple(pair(sorted(frac(point[at]) for point in points)[1]) for at in range(2))
            self.assertEqual(median(*points), middle)

    def test_failures(self):
        dice = Dice(629)
        seen = {True: 0, False: 0}
        for _ in range(250):
            system = any_case(dice)
            found = median_failure(system=system)
            few = all(sum(number != 0 for number in row[0]) < 3 for row in least_single(system).rows)
            seen[few] += 1
            self.assertEqual(found is None, few)
            if found is not None:
                self.assertIsInstance(found, tuple)
                self.assertEqual(len(found), 3)
                for point in found:
                    self.assertTrue(is_solution(system, point))
                self.assertFalse(is_solution(system, median(*found)))
        self.assertGreater(min(seen.values()), 20, seen)

    def test_medians_of_rows_with_two_unknowns_are_solutions(self):
        dice = Dice(630)
        for _ in range(60):
            size = dice.between(1, 4)
            rows = [row for row in (any_row(dice, size, 3, 3) for _ in range(5)) if sum(map(bool, row[0])) < 3]
            system = system_of(NAMES[:size], tuple(rows))
            if has_solution(system):
                points = []
                for _ in range(5):
                    found = least_sum(system, free_box(system), tuple(dice.between(-2, 2) for _ in range(size)))
                    points += [found[1]] if found is not None else []
                for one in points:
                    for two in points:
                        for three in points:
                            self.assertTrue(is_solution(system, median(one, two, three)))

    def test_rows_that_result(self):
        # Two rows of two unknowns with unlike coefficients stay so; three unknowns in a row may be needless.
        self.assertIsNone(median_failure(read_system("x + y + z >= 0\nx >= 0\ny >= 0\nz >= 1")))
        self.assertIsNone(median_failure(System(NAMES, ())))
        found = median_failure(read_system("x + y + z >= 0"))
        self.assertFalse(is_kept(((1, 1, 1), 0), median(*found)))


if __name__ == "__main__":
    unittest.main()
