"""Points [1], [2], [4], [7], [8], [9] and [11]: systems, rows alone, any rows, other unknowns."""

import unittest
from fractions import Fraction
from itertools import combinations

from rowalone.fractions import is_fraction
from rowalone.systems import (System, follows, least_form, parting_point, renamed, row_of, scaled, system_of, turned)
from tests.helpers import (Anything, Dice, NAMES, any_fraction, any_row, any_system, changed, frac, is_kept,
                           no_fractions, odd_values, points_on_grid, raised, sum_at, wide_rows)

XY = ("x", "y")


class Systems(unittest.TestCase):

    def test_attributes(self):
        rows = (((0, 1), 2), ((1, -1), 0))
        system = System(XY, rows)
        self.assertEqual((system.names, system.rows), (XY, rows))
        self.assertEqual(System(rows=(), names=("x",)).rows, ())

    def test_one_name_and_six_names(self):
        self.assertEqual(System(("abcde",), (((1,), 0),)).names, ("abcde",))
        self.assertEqual(System(NAMES, (((0, 0, 0, 0, 0, -1), 5),)).names, NAMES)
        self.assertEqual(raised(System, (), ()), ("InvalidSystem", -1))
        self.assertEqual(raised(System, NAMES + ("g",), ()), ("InvalidSystem", -1))

    def test_names_that_are_no_lot(self):
        wrong = [("y", "x"), ("x", "x"), ["x"], ("X",), ("",), ("abcdef",), ("x1",), ("x ",), (1,), (None,), (True,),
                 (b"x",), ("x", 1), (1, "x"), "x", ("a", ["b"]), ("\u00e9",), ("\u03b1",), ("a\n",), ("-",), ("_",)]
        for names in wrong + odd_values():
            self.assertEqual(raised(System, names, ()), ("InvalidSystem", -1), names)

    def test_rows_that_are_no_tuple(self):
        for rows in odd_values():
            if not isinstance(rows, tuple):
                self.assertEqual(raised(System, XY, rows), ("InvalidSystem", -1), rows)
        self.assertEqual(raised(System, XY, [((1, 0), 0)]), ("InvalidSystem", -1))
        self.assertEqual(raised(System, XY, {}), ("InvalidSystem", -1))

    def test_items_that_are_no_rows(self):
        wrong = [
            ((0, 0), 1), ((0, 0), 0), ((2, 4), 6), ((2, 0), 0), ((0, -3), 3), ((1,), 0), ((1, 2, 3), 0), ([1, 2], 0),
            ((1, True), 0), ((False, 1), 0), ((1, 0), True), ((1, 0), False), ((1, 0), 0.0), ((1.0, 0), 0),
            ((1, 0), None), ((1, 0), (0, 1)), ((1, 0),), ((1, 0), 0, 0), [(1, 0), 0], (1, 0), ((1, "0"), 0),
            (((1, 1), (0, 1)), (0, 1)), ("ab", 0), ((1, None), 0), {0: (1, 0), 1: 0}, Anything(),
        ]
        for item in wrong + odd_values():
            self.assertEqual(raised(System, XY, (item,)), ("InvalidSystem", 0), item)
            self.assertEqual(raised(System, XY, (((-1, 0), 0), item)), ("InvalidSystem", 1), item)

    def test_rows_without_a_common_divisor(self):
        for row in (((2, 4), 5), ((2, 0), 1), ((6, 10), 15), ((-1, 0), 0), ((0, 1), -7)):
            self.assertEqual(System(XY, (row,)).rows, (row,))

    def test_rows_that_do_not_ascend(self):
        rows = (((0, 1), 2), ((0, 1), 3), ((1, -1), 0))
        self.assertEqual(System(XY, rows).rows, rows)
        self.assertEqual(raised(System, XY, (rows[0], rows[0])), ("InvalidSystem", 1))
        self.assertEqual(raised(System, XY, (rows[1], rows[0])), ("InvalidSystem", 1))
        self.assertEqual(raised(System, XY, (rows[0], rows[2], rows[1])), ("InvalidSystem", 2))

    def test_sixty_and_sixty_one_rows(self):
        self.assertEqual(len(System(XY, wide_rows(60)).rows), 60)
        self.assertEqual(raised(System, XY, wide_rows(61)), ("InvalidSystem", 60))
        self.assertEqual(raised(System, XY, wide_rows(70)), ("InvalidSystem", 60))
        self.assertEqual(raised(System, XY, wide_rows(60) + (None,)), ("InvalidSystem", 60))

    def test_of_several_wrong_things_the_first_one_is_named(self):
        self.assertEqual(raised(System, (), 5), ("InvalidSystem", -1))
        self.assertEqual(raised(System, (), (None,)), ("InvalidSystem", -1))
        self.assertEqual(raised(System, XY, (((1, 0), 0), ((0, 1), 0), None)), ("InvalidSystem", 1))
        self.assertEqual(raised(System, XY, (None, None)), ("InvalidSystem", 0))
        rows = changed(wide_rows(61), 30, ((2, 2), 2))
        self.assertEqual(raised(System, XY, rows), ("InvalidSystem", 30))

    def test_great_numbers(self):
        row = ((10 ** 6, 10 ** 6 - 1), -10 ** 6)
        self.assertEqual(System(XY, (row,)).rows, (row,))
        row = ((10 ** 30, 10 ** 30 - 1), 5)
        self.assertEqual(System(XY, (row,)).rows, (row,))

    def test_equality(self):
        rows = (((0, 1), 2),)
        self.assertTrue(System(XY, rows) == System(("x", "y"), (((0, 1), 2),)))
        self.assertFalse(System(XY, rows) != System(XY, rows))
        self.assertFalse(System(XY, rows) == System(("x", "z"), rows))
        self.assertFalse(System(XY, rows) == System(XY, (((0, 1), 3),)))
        twin = Anything()
        twin.names = XY
        twin.rows = rows
        for other in odd_values() + [twin, (XY, rows), rows, XY]:
            self.assertFalse(System(XY, rows) == other)
            self.assertTrue(System(XY, rows) != other)


class RowsAlone(unittest.TestCase):

    def test_examples(self):
        self.assertEqual(least_form((4, -6), 8), ((2, -3), 4))
        self.assertEqual(least_form((2, 0), 1), ((2, 0), 1))
        self.assertEqual(row_of(((1, 2), (-2, 3)), (0, 1)), ((3, -4), 0))
        self.assertIs(follows(((2, 0), 1), ((1, 0), 0)), True)
        self.assertFalse(parting_point(((1, 0), 0), ((2, 0), 1)) is None)

    def test_no_coefficients(self):
        for bound in (-3, 0, 3):
            self.assertIsNone(least_form((0, 0), bound))
            self.assertIsNone(row_of(((0, 1), (0, 1)), (bound, 2) if bound else (0, 1)))

    def test_least_form_keeps_the_points(self):
        dice = Dice(11)
        for _ in range(300):
            size = dice.between(1, 6)
            numbers = tuple(6 * dice.between(-4, 4) for _ in range(size))
            bound = dice.between(-12, 12)
            row = least_form(numbers, bound)
            if any(numbers):
                self.assertEqual(System(NAMES[:size], (row,)).rows, (row,))
                factor = [Fraction(a, b) for a, b in zip(numbers, row[0]) if b][0]
                self.assertGreater(factor, 0)
                self.assertEqual([factor * number for number in row[0]], list(numbers))
                self.assertEqual(factor * row[1], bound)

    def test_row_of_keeps_the_points(self):
        dice = Dice(12)
        for size in (7, 10 ** 9):
            for _ in range(200):
                numbers = tuple(any_fraction(dice, size) for _ in range(dice.between(1, 6)))
                bound = any_fraction(dice, size)
                row = row_of(numbers, bound)
                if row is not None:
                    self.assertEqual(System(NAMES[:len(numbers)], (row,)).rows, (row,))
                    factor = [frac(a) / b for a, b in zip(numbers, row[0]) if b][0]
                    self.assertGreater(factor, 0)
                    self.assertEqual([factor * number for number in row[0]], [frac(a) for a in numbers])
                    self.assertEqual(factor * row[1], frac(bound))

    def test_follows_is_a_factor(self):
        dice = Dice(13)
        seen = {True: 0, False: 0}
        for _ in range(2000):
            size = dice.between(1, 3)
            one = any_row(dice, size, 2, 3)
            other = any_row(dice, size, 2, 3)
            if dice.chance(1, 2):
                other = least_form(tuple(2 * number for number in one[0]), dice.between(-6, 6))
            factors = {Fraction(b, a) if a else None for a, b in zip(one[0], other[0]) if a or b}
            expected = (len(factors) == 1 and None not in factors and min(factors) > 0
                        and other[1] <= min(factors) * one[1])
            seen[expected] += 1
            self.assertIs(follows(one, other), expected, (one, other))
            point = parting_point(one, other)
            self.assertEqual(point is None, expected)
            if point is not None:
                self.assertTrue(all(is_fraction(value) for value in point) and len(point) == size)
                self.assertTrue(is_kept(one, point))
                self.assertFalse(is_kept(other, point))
        self.assertGreater(min(seen.values()), 200)

    def test_parting_points_of_all_kinds(self):
        rows = [((1, 0), 0), ((1, 0), 1), ((2, 0), 1), ((-1, 0), 0), ((-1, 0), 1), ((-2, 0), -3), ((0, 1), 5),
                ((3, -2), 7), ((-3, 2), -7), ((-3, 2), 8), ((-3, 2), -100), ((10 ** 6, 1 - 10 ** 6), -10 ** 6)]
        for one in rows:
            for other in rows:
                point = parting_point(one, other)
                self.assertEqual(point is None, follows(one, other))
                if point is not None:
                    self.assertTrue(is_kept(one, point) and not is_kept(other, point))

    def test_rows_kept_by_the_same_points_are_equal(self):
        dice = Dice(14)
        for _ in range(500):
            one = any_row(dice, 2, 2, 2)
            other = any_row(dice, 2, 2, 2)
            self.assertEqual(follows(one, other) and follows(other, one), one == other)


class AnyRows(unittest.TestCase):

    def test_order_equal_rows_and_divisors(self):
        rows = (((4, -2), 6), ((0, 0), -1), ((0, 1), 0), ((2, -1), 3), ((0, 0), 0), ((0, 5), 0))
        self.assertEqual(system_of(XY, rows), System(XY, (((0, 1), 0), ((2, -1), 3))))
        self.assertEqual(system_of(names=XY, rows=()), System(XY, ()))

    def test_rows_that_follow_are_left_out(self):
        rows = (((1, 0), 0), ((2, 0), 1), ((3, 0), 1), ((-1, 0), 0), ((-2, 0), -1))
        self.assertEqual(system_of(XY, rows), System(XY, (((-1, 0), 0), ((2, 0), 1))))

    def test_zero(self):
        self.assertEqual(raised(system_of, XY, (((0, 0), 1),)), ("Refused", "zero"))
        self.assertEqual(raised(system_of, XY, (((1, 0), 1), ((0, 0), 0), ((0, 0), 5))), ("Refused", "zero"))
        self.assertEqual(system_of(XY, (((0, 0), 0), ((0, 0), -5))), System(XY, ()))

    def test_wide(self):
        self.assertEqual(len(system_of(XY, wide_rows(60)[::-1]).rows), 60)
        self.assertEqual(raised(system_of, XY, wide_rows(61)), ("Refused", "wide"))
        # Rows that follow from others do not count.
        many = tuple(((1, number % 60), -number) for number in range(500))
        self.assertEqual(system_of(XY, many).rows, tuple(((1, number), -number) for number in range(60)))

    def test_zero_comes_before_wide(self):
        self.assertEqual(raised(system_of, XY, wide_rows(61) + (((0, 0), 1),)), ("Refused", "zero"))

    def test_the_only_part_with_both_properties(self):
        dice = Dice(15)
        for _ in range(60):
            size = dice.between(1, 2)
            rows = []
            for _ in range(dice.between(0, 6)):
                row = any_row(dice, size, 1, 2)
                factor = dice.between(1, 3)
                rows.append((tuple(factor * number for number in row[0]), factor * row[1]))
            system = system_of(NAMES[:size], tuple(rows))
            forms = sorted({least_form(*row) for row in rows})
            found = []
            for many in range(len(forms) + 1):
                for part in combinations(forms, many):
                    covers = all(any(follows(one, row) for one in part) for row in rows)
                    thin = not any(follows(one, other) for one in part for other in part if one != other)
                    if covers and thin:
                        found.append(part)
            self.assertEqual(found, [system.rows])

    def test_arguments_do_not_change(self):
        rows = (((4, -2), 6), ((0, 1), 0))
        system_of(XY, rows)
        self.assertEqual(rows, (((4, -2), 6), ((0, 1), 0)))


class OtherUnknowns(unittest.TestCase):

    def test_renamed(self):
        system = System(("a", "b", "c"), (((0, 1, 2), 3), ((4, 0, -5), 6)))
        names = {"a": "z", "b": "b", "c": "a", "d": 7, 5: None}
        self.assertEqual(renamed(system, names), System(("a", "b", "z"), (((-5, 0, 4), 6), ((2, 1, 0), 3))))
        self.assertEqual(list(names), ["a", "b", "c", "d", 5])
        self.assertEqual(renamed(system, {"a": "b", "b": "c", "c": "a"}),
                         System(("a", "b", "c"), (((-5, 4, 0), 6), ((2, 0, 1), 3))))

    def test_later_changes_of_the_dict_have_no_effect(self):
        names = {"x": "p", "y": "q"}
        result = renamed(System(XY, (((1, 2), 3),)), names)
        names["x"] = "zz"
        names.clear()
        self.assertEqual(result, System(("p", "q"), (((1, 2), 3),)))

    def test_renamed_wrongly(self):
        system = System(XY, (((1, 2), 3),))
        for names in ({}, {"x": "a"}, {"y": "a"}, {"x": "a", "y": "a"}, {"x": "a", "y": 5}, {"x": "a", "y": None},
                      {"x": "A", "y": "b"}, {"x": "abcdef", "y": "b"}, {"x": "", "y": "b"}, {"x": ("a",), "y": "b"}):
            self.assertEqual(raised(renamed, system, names), ("Refused", "names"), names)
        for value in odd_values():
            if not isinstance(value, str) or not value.isalpha():
                self.assertEqual(raised(renamed, system, {"x": value, "y": "b"}), ("Refused", "names"), value)

    def test_renamed_keeps_rows_and_solutions(self):
        dice = Dice(16)
        for _ in range(40):
            system = any_system(dice, 3, 5, 3, 3)
            names = {"a": "q", "b": "m", "c": "z"}
            result = renamed(system, names)
            self.assertEqual(result.names, ("m", "q", "z"))
            for point in points_on_grid(3, ((-1, 1), (0, 1), (1, 2))):
                moved = (point[1], point[0], point[2])
                self.assertEqual(all(is_kept(row, point) for row in system.rows),
                                 all(is_kept(row, moved) for row in result.rows))
            self.assertEqual(renamed(result, {"m": "b", "q": "a", "z": "c"}), system)

    def test_turned(self):
        system = System(XY, (((1, 2), 3), ((2, -1), 0)))
        self.assertEqual(turned(system, "x"), System(XY, (((-2, -1), 0), ((-1, 2), 3))))
        self.assertEqual(turned(system, "y"), System(XY, (((1, -2), 3), ((2, 1), 0))))
        self.assertEqual(turned(System(XY, ()), "y"), System(XY, ()))

    def test_scaled(self):
        system = System(XY, (((1, 2), 3), ((2, -1), 0)))
        self.assertEqual(scaled(system, "x", (3, 2)), System(XY, (((3, -1), 0), ((3, 4), 6))))
        self.assertEqual(scaled(system, "y", (1, 2)), System(XY, (((1, 1), 3), ((4, -1), 0))))
        self.assertEqual(scaled(system, "y", (1, 1)), system)

    def test_a_row_for_each_row(self):
        # Rows that follow from others stay, too.
        system = System(("x",), (((1,), 0), ((1,), 1), ((2,), 1)))
        self.assertEqual(turned(system, "x"), System(("x",), (((-2,), 1), ((-1,), 0), ((-1,), 1))))
        self.assertEqual(scaled(system, "x", (2, 1)), System(("x",), (((1,), 0), ((2,), 1), ((4,), 1))))

    def test_wrong_names_and_factors(self):
        system = System(XY, (((1, 2), 3),))
        for name in odd_values() + ["z", "xy", "X", ("x",), ["x"]]:
            if name != "x":
                self.assertEqual(raised(turned, system, name), ("Refused", "name"), name)
                self.assertEqual(raised(scaled, system, name, (1, 1)), ("Refused", "name"), name)
                self.assertEqual(raised(scaled, system, name, None), ("Refused", "name"), name)
        for factor in odd_values() + no_fractions() + [(0, 1), (-1, 2)]:
            self.assertEqual(raised(scaled, system, "x", factor), ("InvalidNumber", "factor"), factor)

    def test_points_of_turned_and_scaled(self):
        dice = Dice(17)
        for _ in range(40):
            system = any_system(dice, 2, 4, 3, 3)
            name = dice.pick(system.names)
            at = system.names.index(name)
            factor = (dice.between(1, 5), 1) if dice.chance(1, 2) else (1, dice.between(1, 5))
            for point in points_on_grid(2, ((-2, 1), (-1, 3), (0, 1), (1, 1), (5, 2))):
                kept = [is_kept(row, point) for row in system.rows]
                value = frac(point[at])
                less = changed(point, at, (-value.numerator, value.denominator))
                self.assertEqual(sorted(kept), sorted(is_kept(row, less) for row in turned(system, name).rows))
                value = value / frac(factor)
                less = changed(point, at, (value.numerator, value.denominator))
                result = scaled(system, name, factor)
                self.assertEqual(sorted(kept), sorted(is_kept(row, less) for row in result.rows))

    def test_any_sequence_and_products(self):
        dice = Dice(18)
        for _ in range(60):
            system = any_system(dice, 3, 5, 4, 4)
            one, other = (dice.between(1, 9), 1), (1, dice.between(1, 9))
            both = Fraction(one[0], other[1])
            both = (both.numerator, both.denominator)
            self.assertEqual(scaled(scaled(system, "b", one), "b", other), scaled(system, "b", both))
            self.assertEqual(scaled(scaled(system, "b", one), "a", other), scaled(scaled(system, "a", other), "b", one))
            self.assertEqual(turned(scaled(system, "b", one), "b"), scaled(turned(system, "b"), "b", one))
            self.assertEqual(turned(scaled(system, "b", one), "c"), scaled(turned(system, "c"), "b", one))
            self.assertEqual(turned(turned(system, "b"), "b"), system)
            back = (both[1], both[0])
            self.assertEqual(scaled(scaled(system, "c", both), "c", back), system)

    def test_great_factors(self):
        system = System(XY, (((10 ** 6, 1), 10 ** 6),))
        self.assertEqual(scaled(system, "y", (10 ** 9, 1)).rows, (((1, 1000), 1),))
        self.assertEqual(sum_at(scaled(system, "x", (10 ** 9, 7)).rows[0], ((7, 10 ** 9), (0, 1))), 7 * 10 ** 6)


if __name__ == "__main__":
    unittest.main()
