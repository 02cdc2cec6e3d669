"""Point [38], and what [39] says of it: outer rows for told signs."""

import unittest
from itertools import product

from rowalone.boxes import free_box
from rowalone.cones import cone_of
from rowalone.court import is_single
from rowalone.cuts import flow_or_cut, least_flows
from rowalone.differences import arc_row, closed_differences, positive_ring
from rowalone.eliminations import eliminated, eliminations
from rowalone.equations import equal_system, least_equations
from rowalone.nets import flow_system
from rowalone.papers import is_sum_of, least_in, point_or_paper
from rowalone.patterns import outer_rows
from rowalone.systems import System, least_form, system_of
from rowalone.texts import read_system
from tests.helpers import (Anything, Dice, NAMES, any_fraction, any_net, any_row, any_system, frac, odd_values,
                           raised)

BOTH = read_system("x + y >= 0\nx - y >= 0")


def least_bound(system, coefficients):
    """The greatest bound with which a row holds, None if it holds with none."""
    word, point, _ = least_in(system, free_box(system), coefficients)
    return sum(n * frac(v) for n, v in zip(coefficients, point)) if word == "least" else None


def has_signs(row, signs):
    return all(number * sign > 0 or number == 0 for number, sign in zip(row[0], signs))


def any_with_solution(dice, size, many, limit, bound):
    while True:
        system = any_system(dice, size, many, limit, bound)
        if point_or_paper(system, free_box(system))[0] == "point":
            return system


def all_outer(system):
    """The outer rows for all signs: the rows of the least single system."""
    rows = set()
    for signs in product((-1, 1), repeat=len(system.names)):
        rows |= set(outer_rows(system, signs))
    return tuple(sorted(rows))


def by_rounds(system):
    """The rows of the least single system, by eliminations and without needless rows."""
    rows = list(system.rows)
    while True:
        for row in list(rows):
            if is_sum_of([other for other in rows if other != row], row):
                rows.remove(row)
        fresh = []
        for one in rows:
            for other in rows:
                for at, (a, b) in enumerate(zip(one[0], other[0])):
                    row = eliminated(one, other, at) if a > 0 > b else None
                    if row is not None and not is_sum_of(rows, row):
                        fresh.append(row)
        if not fresh:
            return tuple(sorted(rows))
        rows += [row for row in sorted(set(fresh)) if row not in rows]


class Errors(unittest.TestCase):

    def test_signs(self):
        wrong = [(1,), (1, 1, 1), [1, 1], (1, 2), (-2, 0), (True, 1), (1, False), (1.0, 1), ("1", 1), (None, 1), (),
                 ((1,), 1), Anything(), (Anything(), 1)]
        clash = read_system("x + y >= 1\nx + y <= 0")
        for value in odd_values() + wrong:
            self.assertEqual(raised(outer_rows, BOTH, value), ("Refused", "signs"), value)
            self.assertEqual(raised(outer_rows, clash, value), ("Refused", "signs"), value)

    def test_no_solution(self):
        for text in ("x + y >= 1\nx + y <= 0", "x >= 1\nx <= 0\ny >= 0", "x - y >= 1\ny - x >= 0"):
            for signs in product((-1, 0, 1), repeat=2):
                self.assertEqual(raised(outer_rows, read_system(text), signs), ("Refused", "none"))


class OuterRows(unittest.TestCase):

    def test_examples(self):
        self.assertEqual((outer_rows(BOTH, (1, 1)), outer_rows(BOTH, (1, 0)), outer_rows(BOTH, (-1, 1))),
                         ((((1, 0), 0), ((1, 1), 0)), (((1, 0), 0),), ()))
        self.assertEqual(outer_rows(signs=(1, -1), system=BOTH), (((1, -1), 0), ((1, 0), 0)))

    def test_one_name(self):
        system = read_system("2 x >= 1\nx <= 7\nx >= -5")
        self.assertEqual(outer_rows(system, (1,)), (((2,), 1),))
        self.assertEqual(outer_rows(system, (-1,)), (((-1,), -7),))
        self.assertEqual(outer_rows(system, (0,)), ())
        point = read_system("3 x = 2")
        self.assertEqual(outer_rows(point, (1,)) + outer_rows(point, (-1,)), (((3,), 2), ((-3,), -2)))

    def test_no_rows(self):
        for signs in ((0,) * 6, (1,) * 6, (1, -1, 0, 1, -1, 0)):
            self.assertEqual(outer_rows(System(NAMES, ()), signs), ())

    def test_rows_that_tell_nothing_new(self):
        # x + y >= -1 follows from x >= 0 and y >= 0, and x >= -1 from x >= 0.
        system = read_system("x >= 0\ny >= 0\nx + y >= -1")
        self.assertEqual(outer_rows(system, (1, 1)), (((0, 1), 0), ((1, 0), 0)))
        self.assertEqual(outer_rows(System(("x",), (((1,), -1), ((1,), 0))), (1,)), (((1,), 0),))

    def test_equations(self):
        system = read_system("x + y = 1\ny - z = 0")
        self.assertEqual(outer_rows(system, (1, 1, 1)), (((1, 0, 1), 1), ((1, 1, 0), 1)))
        self.assertEqual(outer_rows(system, (1, -1, 1)), (((0, -1, 1), 0), ((1, 0, 1), 1)))
        self.assertEqual(outer_rows(system, (0, 1, -1)), (((0, 1, -1), 0),))

    def test_by_the_words(self):
        dice = Dice(381)
        many = 0
        for _ in range(300):
            size = dice.between(1, 5)
            limit = dice.pick((1, 2, 3, 10 ** 6))
            system = any_with_solution(dice, size, dice.between(0, 8), limit, dice.pick((0, 3, limit)))
            signs = tuple(dice.pick((-1, 1, -1, 1, 0)) for _ in range(size))
            rows = outer_rows(system, signs)
            many = max(many, len(rows))
            self.assertEqual(rows, tuple(sorted(set(rows))))
            for row in rows:
                self.assertIsNone(raised(System, system.names, (row,)))
                self.assertTrue(has_signs(row, signs))
                # It holds, with the greatest bound with which it does, and is no sum of the others.
                self.assertEqual(least_bound(system, row[0]), row[1])
                self.assertFalse(is_sum_of([other for other in rows if other != row], row))
            self.check_sums(dice, system, signs, rows)
        self.assertGreater(many, 12)

    def check_sums(self, dice, system, signs, rows):
        """Rows that hold and have the signs are sums of the outer ones."""
        some = [row for row in system.rows if has_signs(row, signs)]
        for one, other, at in eliminations(system):
            row = eliminated(system.rows[one], system.rows[other], at)
            if row is not None and has_signs(row, signs):
                some.append(row)
        for _ in range(6):
            numbers = tuple(sign * dice.between(0, 3) for sign in signs)
            bound = least_bound(system, numbers)
            if any(numbers) and bound is not None:
                whole = tuple(number * bound.denominator for number in numbers)
                some.append(least_form(whole, bound.numerator))
        for row in some:
            self.assertTrue(is_sum_of(rows, row))

    def test_all_signs_make_the_least_single_system(self):
        dice = Dice(382)
        for _ in range(60):
            size = dice.between(1, 3)
            system = any_with_solution(dice, size, dice.between(0, 5), dice.pick((1, 2, 4)), 3)
            rows = by_rounds(system)
            self.assertEqual(all_outer(system), rows)
            single = System(system.names, rows)
            self.assertTrue(is_single(single))
            for signs in product((-1, 0, 1), repeat=size):
                found = tuple(row for row in rows if has_signs(row, signs))
                self.assertEqual(outer_rows(system, signs), found)
                # It does not depend on the rows but only on the solutions.
                self.assertEqual(outer_rows(single, signs), found)

    def test_other_systems_with_the_same_solutions(self):
        dice = Dice(383)
        for _ in range(60):
            size = dice.between(2, 4)
            system = any_with_solution(dice, size, dice.between(2, 5), 2, 3)
            rows = list(system.rows)
            for _ in range(4):
                numbers = [dice.between(0, 2) for _ in rows]
                coefficients = tuple(sum(n * row[0][at] for n, row in zip(numbers, rows)) for at in range(size))
                if any(coefficients):
                    rows.append((coefficients, sum(n * row[1] for n, row in zip(numbers, rows)) - dice.below(2)))
            other = system_of(system.names, tuple(rows))
            signs = tuple(dice.pick((-1, 0, 1)) for _ in range(size))
            self.assertEqual(outer_rows(other, signs), outer_rows(system, signs))

    def test_differences(self):
        dice = Dice(384)
        checked = 0
        while checked < 40:
            size = dice.between(1, 4)
            rows = []
            for _ in range(dice.between(0, 9)):
                one, other = dice.below(size + 1), dice.below(size + 1)
                if one != other:
                    rows.append(arc_row(size, (one, other, any_fraction(dice, 4))))
            system = system_of(NAMES[:size], tuple(rows))
            if positive_ring(system) is None:
                checked += 1
                self.assertEqual(all_outer(system), closed_differences(system).rows)

    def test_equations_and_flows(self):
        dice = Dice(385)
        checked = 0
        while checked < 40:
            size = dice.between(1, 4)
            rows = tuple(any_row(dice, size, 2, 2) for _ in range(dice.between(1, 3)))
            system = equal_system(NAMES[:size], rows)
            if raised(least_equations, system) is None:
                checked += 1
                self.assertEqual(all_outer(system), least_equations(system).rows)
        checked = 0
        while checked < 60:
            net = any_net(dice, 5)
            if flow_or_cut(net, free_box(net))[0] == "flow":
                checked += 1
                self.assertEqual(all_outer(flow_system(net)), least_flows(net).rows)

    def test_sixty_rows(self):
        rows = tuple(((number, 1), -number * number) for number in range(60))
        system = System(("x", "y"), rows)
        self.assertEqual(outer_rows(system, (1, 1)), rows)
        self.assertEqual(outer_rows(system, (-1, 1)), (((0, 1), 0),))
        self.assertEqual(outer_rows(system, (1, -1)), ())
        dice = Dice(386)
        system = any_system(dice, 3, 60, 10 ** 6, 10 ** 6)
        system = System(system.names, tuple(sorted((row[0], -abs(row[1])) for row in system.rows)))
        for signs in product((-1, 0, 1), repeat=3):
            for row in outer_rows(system, signs):
                self.assertTrue(has_signs(row, signs))
                self.assertEqual(least_bound(system, row[0]), row[1])

    def test_six_names(self):
        dice = Dice(387)
        for limit in (1, 10 ** 6):
            system = any_with_solution(dice, 6, 10, limit, limit)
            signs = tuple(dice.pick((-1, 1)) for _ in range(6))
            rows = outer_rows(system, signs)
            for row in rows:
                self.assertTrue(has_signs(row, signs))
                self.assertEqual(least_bound(system, row[0]), row[1])
                self.assertFalse(is_sum_of([other for other in rows if other != row], row))
            self.check_sums(dice, system, signs, rows)


class Cones(unittest.TestCase):

    def test_cones_by_their_products(self):
        dice = Dice(388)
        for _ in range(150):
            size = dice.between(1, 4)
            normals = [tuple(dice.between(-2, 2) for _ in range(size)) for _ in range(dice.between(0, 6))]
            lines, rays = cone_of(size, normals)
            for vector in lines:
                self.assertTrue(any(vector))
                self.assertTrue(all(self.product(normal, vector) == 0 for normal in normals))
            for vector, bits in rays:
                products = [self.product(normal, vector) for normal in normals]
                self.assertTrue(all(value >= 0 for value in products) and any(products))
                self.assertEqual(bits, sum(1 << at for at, value in enumerate(products) if value == 0))
            self.assertEqual(len({bits for _, bits in rays}), len(rays))
            # Each vector with such products is a sum: so it keeps all rows that the lines and rays keep.
            for vector in product((-1, 0, 1), repeat=size):
                inside = all(self.product(normal, vector) >= 0 for normal in normals)
                self.assertEqual(inside, self.is_sum(size, lines, rays, vector))

    def product(self, one, other):
        return sum(a * b for a, b in zip(one, other))

    def is_sum(self, size, lines, rays, vector):
        """Whether no row holds for all lines and rays and not for a vector."""
        normals = [ray for ray, _ in rays] + list(lines) + [tuple(-n for n in line) for line in lines]
        rows = tuple(least_form(normal, 0) for normal in normals)
        system = system_of(NAMES[:size], rows + (((0,) * size, 0),))
        if not any(vector):
            return True
        bound = least_bound(system, vector)
        return bound is not None and bound >= 0

    def test_no_normals(self):
        self.assertEqual(cone_of(2, []), ([(1, 0), (0, 1)], []))
        self.assertEqual(cone_of(1, [(1,), (-1,)]), ([], []))


if __name__ == "__main__":
    unittest.main()
