"""Points [18] to [24]: combinations, papers and plain sums."""

import unittest
from fractions import Fraction
from itertools import combinations

from rowalone.bars import barring, bars_box
from rowalone.boxes import check_box, free_box
from rowalone.papers import (cancelled, check_combination, check_paper, check_plain, combined, ends_without, plain_sum,
                             point_or_paper, shortened)
from rowalone.systems import System
from tests.helpers import (Anything, Dice, NAMES, any_box, any_fraction, any_numbers, any_row, any_system, changed,
                           frac, is_in, is_kept, no_fractions, odd_values, pair, raised, top_of, wide_rows)

CHAIN = System(("x", "y", "z"), (((0, 1, -1), 0), ((1, -1, 0), 0)))
EMPTY = ((None, (0, 1)), (None, None), ((1, 1), None))
ZERO = (0, 1)


def given(system, numbers):
    """What a combination gives, in Python's fractions: the coefficients, and the bound."""
    coefficients = []
    for at in range(len(system.names)):
        coefficients.append(sum((row[0][at] * frac(n) for row, n in zip(system.rows, numbers)), Fraction(0)))
    return coefficients, sum((row[1] * frac(n) for row, n in zip(system.rows, numbers)), Fraction(0))


def used(numbers):
    return tuple(at for at, number in enumerate(numbers) if number != ZERO)


def is_plain(system, numbers):
    for at in range(len(system.names)):
        signs = {row[0][at] > 0 for row, n in zip(system.rows, numbers) if n != ZERO and row[0][at] != 0}
        if len(signs) == 2:
            return False
    return True


def part_of(system, numbers):
    return System(system.names, tuple(system.rows[at] for at in numbers))


class Combinations(unittest.TestCase):

    def test_combinations(self):
        for value in ((ZERO, ZERO), ((1, 2), (10 ** 9, 7))):
            self.assertIsNone(check_combination(CHAIN, value))
        self.assertIsNone(check_combination(value=(), system=System(("x",), ())))

    def test_no_tuples_with_an_entry_for_each_row(self):
        for value in odd_values() + [(), ((1, 1),), ((1, 1),) * 3, [(1, 1), (1, 1)]]:
            if not isinstance(value, tuple) or len(value) != 2:
                self.assertEqual(raised(check_combination, CHAIN, value), ("InvalidPaper", -1), value)
                self.assertEqual(raised(check_paper, CHAIN, EMPTY, value), ("InvalidPaper", -1), value)
                self.assertEqual(raised(shortened, CHAIN, EMPTY, value), ("InvalidPaper", -1), value)
                self.assertEqual(raised(check_plain, CHAIN, CHAIN.rows[0], value), ("InvalidPaper", -1), value)
        for value in odd_values():
            if value != ():
                self.assertEqual(raised(check_combination, System(("x",), ()), value), ("InvalidPaper", -1), value)

    def test_entries_that_are_none(self):
        for item in odd_values() + no_fractions() + [(-1, 2), (-5, 1)]:
            for at in (0, 1):
                value = changed(((1, 1), (1, 1)), at, item)
                self.assertEqual(raised(check_combination, CHAIN, value), ("InvalidPaper", at), item)
                self.assertEqual(raised(check_paper, CHAIN, EMPTY, value), ("InvalidPaper", at), item)
                self.assertEqual(raised(shortened, CHAIN, EMPTY, value), ("InvalidPaper", at), item)
                self.assertEqual(raised(check_plain, CHAIN, CHAIN.rows[0], value), ("InvalidPaper", at), item)
        self.assertEqual(raised(check_combination, CHAIN, (None, (-1, 1))), ("InvalidPaper", 0))

    def test_sixty_rows(self):
        system = System(("x", "y"), wide_rows(60))
        self.assertIsNone(check_combination(system, ((1, 3),) * 60))
        self.assertEqual(combined(system, ((1, 3),) * 60), (((20, 1), (590, 1)), ZERO))
        self.assertEqual(raised(check_combination, system, changed(((1, 3),) * 60, 59, (2, 6))), ("InvalidPaper", 59))

    def test_examples(self):
        self.assertEqual(combined(CHAIN, ((1, 2), (3, 1))), (((3, 1), (-5, 2), (-1, 2)), ZERO))
        self.assertEqual(cancelled(CHAIN, ((1, 2), (3, 1))), (ZERO, (1, 2), ZERO))

    def test_no_row_used(self):
        self.assertEqual(combined(CHAIN, (ZERO, ZERO)), ((ZERO,) * 3, ZERO))
        self.assertEqual(cancelled(CHAIN, (ZERO, ZERO)), (ZERO,) * 3)
        self.assertEqual(combined(System(("x",), ()), ()), ((ZERO,), ZERO))
        self.assertEqual(cancelled(numbers=(), system=System(("x",), ())), (ZERO,))

    def test_against_python(self):
        dice = Dice(61)
        for limit in (3, 10 ** 6):
            for _ in range(150):
                system = any_system(dice, dice.between(1, 6), dice.between(0, 9), limit, limit)
                numbers = any_numbers(dice, len(system.rows), limit)
                coefficients, bound = given(system, numbers)
                self.assertEqual(combined(system, numbers), (tuple(map(pair, coefficients)), pair(bound)))
                lesser = []
                for at in range(len(system.names)):
                    parts = [row[0][at] * frac(number) for row, number in zip(system.rows, numbers)]
                    lesser.append(min(sum((p for p in parts if p > 0), Fraction(0)),
                                      -sum((p for p in parts if p < 0), Fraction(0))))
                self.assertEqual(cancelled(system, numbers), tuple(map(pair, lesser)))
                self.assertEqual(not any(lesser), is_plain(system, numbers))

    def test_tops_and_what_cancels(self):
        dice = Dice(62)
        checked = 0
        for _ in range(300):
            system = any_system(dice, dice.between(1, 4), dice.between(1, 5), 3, 3)
            numbers = any_numbers(dice, len(system.rows), 4)
            box = any_box(dice, len(system.names), 4, 9)
            tops = [top_of(system.rows[at], box) for at in used(numbers)]
            if None in tops:
                continue
            checked += 1
            coefficients, bound = given(system, numbers)
            total = top_of((coefficients, bound), box)
            for lost, (low, high) in zip(cancelled(system, numbers), box):
                if lost != ZERO:
                    total += frac(lost) * (frac(high) - frac(low))
            self.assertEqual(sum((t * frac(numbers[at]) for t, at in zip(tops, used(numbers))), Fraction(0)), total)
        self.assertGreater(checked, 100)


class Papers(unittest.TestCase):

    def test_papers(self):
        self.assertIsNone(check_paper(CHAIN, EMPTY, ((1, 1), (1, 1))))
        self.assertIsNone(check_paper(value=((7, 2), (7, 2)), box=EMPTY, system=CHAIN))

    def test_what_is_no_paper(self):
        for value in ((ZERO, ZERO), ((1, 1), ZERO), ((1, 1), (2, 1))):
            self.assertEqual(raised(check_paper, CHAIN, EMPTY, value), ("InvalidPaper", 2))
            self.assertEqual(raised(shortened, CHAIN, EMPTY, value), ("InvalidPaper", 2))
        self.assertEqual(raised(check_paper, CHAIN, free_box(CHAIN), ((1, 1), (1, 1))), ("InvalidPaper", 2))
        self.assertEqual(raised(check_paper, System(("x",), ()), ((None, None),), ()), ("InvalidPaper", 0))
        # A top that equals the bound is no paper.
        touching = ((None, (0, 1)), (None, None), ((0, 1), None))
        self.assertEqual(raised(check_paper, CHAIN, touching, ((1, 1), (1, 1))), ("InvalidPaper", 2))

    def test_papers_without_coefficients(self):
        system = System(("x",), (((-1,), 0), ((1,), 1)))
        self.assertIsNone(check_paper(system, ((None, None),), ((1, 1), (1, 1))))
        system = System(("x",), (((-1,), -1), ((1,), 1)))
        self.assertEqual(raised(check_paper, system, ((None, None),), ((1, 1), (1, 1))), ("InvalidPaper", 2))

    def test_boxes_are_checked_first(self):
        for call, more in ((point_or_paper, ()), (check_paper, (None,)), (shortened, (None,))):
            for value in odd_values() + [EMPTY[:2], EMPTY + EMPTY, list(EMPTY)]:
                if not isinstance(value, tuple) or len(value) != 3:
                    self.assertEqual(raised(call, CHAIN, value, *more), ("InvalidBox", -1), value)
            for item in odd_values() + [((1, 1), ZERO), ((True, 1), None), [None, None], Anything()]:
                for at in range(3):
                    value = changed(EMPTY, at, item)
                    self.assertEqual(raised(call, CHAIN, value, *more), ("InvalidBox", at), item)

    def test_examples(self):
        word, paper = point_or_paper(CHAIN, EMPTY)
        self.assertEqual((word, [top > 0 for top, bottom in shortened(CHAIN, EMPTY, paper)]), ("paper", [True, True]))
        self.assertEqual(point_or_paper(CHAIN, ((None, None), ((2, 1), (2, 1)), ((2, 1), None)))[1][1:],
                         ((2, 1), (2, 1)))

    def test_systems_without_a_solution(self):
        system = System(("x", "y"), (((-1, -1), 0), ((0, 1), 1), ((1, 0), 0)))
        word, paper = point_or_paper(system, free_box(system))
        self.assertEqual(word, "paper")
        self.assertEqual(used(paper), (0, 1, 2))
        self.assertIsNone(check_paper(system, free_box(system), paper))

    def test_no_rows(self):
        system = System(NAMES, ())
        box = (((1, 3), (1, 2)), (None, (-5, 1)), ((5, 1), None), (None, None), (ZERO, ZERO), ((9, 7), (9, 7)))
        word, point = point_or_paper(system, box)
        self.assertEqual(word, "point")
        self.assertTrue(is_in(point, box))

    def test_some_point_or_some_paper(self):
        dice = Dice(63)
        seen = {"point": 0, "paper": 0}
        for _ in range(500):
            size = dice.between(1, 6)
            limit = dice.pick((1, 2, 5, 10 ** 6))
            system = any_system(dice, size, dice.pick((0, 1, 3, 8, 20)), limit, dice.pick((0, 2, limit)))
            box = any_box(dice, size, dice.pick((2, 10 ** 9)), dice.between(2, 10))
            word, found = point_or_paper(system, box)
            seen[word] += 1
            if word == "point":
                self.assertTrue(is_in(found, box))
                self.assertTrue(all(is_kept(row, found) for row in system.rows))
                self.assertEqual(raised(check_paper, system, box, (ZERO,) * len(system.rows)),
                                 ("InvalidPaper", len(system.rows)))
            else:
                self.assertIsNone(check_paper(system, box, found))
                coefficients, bound = given(system, found)
                self.assertLess(top_of((coefficients, bound), box), bound)
                self.check_short(system, box, found)
        self.assertGreater(min(seen.values()), 100)

    def check_short(self, system, box, paper):
        numbers = shortened(system, box, paper)
        self.assertIsNone(check_paper(system, box, numbers))
        rows = used(numbers)
        self.assertTrue(set(rows) <= set(used(paper)))
        for at in rows:
            left = tuple(other for other in rows if other != at)
            self.assertEqual(point_or_paper(part_of(system, left), box)[0], "point")
        lost = [value for value in cancelled(system, numbers) if value != ZERO]
        self.assertLessEqual(len(rows), len(lost) + 1)
        self.check_cheap(system, box, paper)

    def check_cheap(self, system, box, paper):
        coefficients, bound = given(system, paper)
        total = Fraction(0)
        for lost, (low, high) in zip(cancelled(system, paper), box):
            if lost != ZERO:
                if low is None or high is None:
                    return
                total += frac(lost) * (frac(high) - frac(low))
        if total < bound - top_of((coefficients, bound), box):
            self.assertTrue(any(bars_box(system.rows[at], box) for at in used(paper)))

    def test_papers_with_more_rows_than_needed(self):
        dice = Dice(64)
        checked = 0
        while checked < 60:
            size = dice.between(1, 3)
            system = any_system(dice, size, dice.between(3, 9), 2, 6)
            box = any_box(dice, size, 2, 9)
            numbers = any_numbers(dice, len(system.rows), 4, 8)
            if raised(check_paper, system, box, numbers) is None:
                checked += 1
                self.check_short(system, box, numbers)

    def test_one_row_alone(self):
        system = System(("x", "y"), (((0, 1), 0), ((1, 0), 5), ((1, 1), 9)))
        box = ((None, (1, 1)), (None, (1, 1)))
        numbers = shortened(system, box, ((1, 1), (1, 1), (1, 1)))
        self.assertEqual(len(used(numbers)), 1)
        self.assertIsNone(check_paper(system, box, numbers))

    def test_sixty_rows_of_great_numbers(self):
        dice = Dice(65)
        for _ in range(10):
            system = any_system(dice, 6, 60, 10 ** 6, 10 ** 6)
            box = any_box(dice, 6, 10 ** 9, 7)
            word, found = point_or_paper(system, box)
            if word == "point":
                self.assertTrue(is_in(found, box) and all(is_kept(row, found) for row in system.rows))
            else:
                self.check_short(system, box, found)


class PlainSums(unittest.TestCase):

    def test_examples(self):
        self.assertIsNone(plain_sum(CHAIN, ((1, 0, -1), 0)))
        self.assertIsNone(ends_without(CHAIN, ((1, -1, 0), -3)))
        system = System(("x", "y"), (((0, 1), 1), ((1, 0), 1)))
        self.assertEqual(plain_sum(system, ((2, 1), 2)), ((1, 1), (2, 1)))

    def test_bounds(self):
        system = System(("x", "y"), (((0, 1), 1), ((1, 0), 1)))
        self.assertIsNotNone(plain_sum(system, ((2, 1), 3)))
        self.assertIsNone(plain_sum(system, ((2, 1), 4)))
        self.assertIsNone(ends_without(system, ((2, 1), 3)))
        box = ends_without(system, ((2, 1), 4))
        self.assertTrue(bars_box(((2, 1), 4), box))
        self.assertEqual(barring(system, box), ())

    def test_no_rows_and_systems_without_a_solution(self):
        system = System(("x",), ())
        self.assertIsNone(plain_sum(row=((1,), -5), system=system))
        self.assertTrue(bars_box(((1,), -5), ends_without(system, ((1,), -5))))
        system = System(("x", "y"), (((-1, 0), 0), ((1, 0), 1)))
        for row in (((0, 1), -9), ((0, -1), 0), ((1, 0), 2), ((-1, 0), 1), ((1, 1), 0)):
            self.check_row(system, row)
        self.assertIsNotNone(plain_sum(system, ((1, 0), 1)))

    def check_row(self, system, row):
        numbers, box = plain_sum(system, row), ends_without(system, row)
        self.assertEqual(numbers is None, box is not None)
        if numbers is not None:
            self.assertIsNone(check_plain(system, row, numbers))
            self.assertTrue(is_plain(system, numbers))
            coefficients, bound = given(system, numbers)
            self.assertEqual(coefficients, list(row[0]))
            self.assertGreaterEqual(bound, row[1])
            self.assertLessEqual(len(used(numbers)), sum(number != 0 for number in row[0]))
        else:
            self.assertIsNone(check_box(system, box))
            self.assertTrue(bars_box(row, box))
            self.assertEqual(barring(system, box), ())
            for number, (low, high) in zip(row[0], box):
                self.assertTrue(low is None or number < 0)
                self.assertTrue(high is None or number > 0)
        return numbers is not None

    def test_a_sum_or_ends_without(self):
        dice = Dice(66)
        seen = {True: 0, False: 0}
        for _ in range(500):
            size = dice.between(1, 5)
            limit = dice.pick((1, 2, 4, 10 ** 6))
            system = any_system(dice, size, dice.pick((0, 2, 6, 15)), limit, limit)
            row = any_row(dice, size, limit, dice.pick((limit, 3 * limit)))
            seen[self.check_row(system, row)] += 1
        self.assertGreater(min(seen.values()), 60)

    def test_rows_made_of_rows(self):
        # Sums of rows in which nothing cancels, with a bound that is reached and one that is not.
        dice = Dice(67)
        for _ in range(150):
            size = dice.between(1, 5)
            signs = [dice.pick((-1, 1)) for _ in range(size)]
            rows = []
            for _ in range(dice.between(1, 7)):
                numbers = tuple(sign * dice.between(0, 3) for sign in signs)
                if any(numbers):
                    rows.append((numbers, dice.between(-4, 4)))
            rows = tuple(sorted({row for row in rows if raised(System, NAMES[:size], (row,)) is None}))
            if not rows:
                continue
            system = System(NAMES[:size], rows)
            part = [dice.pick(rows) for _ in range(dice.between(1, 4))]
            numbers = tuple(sum(row[0][at] for row in part) for at in range(size))
            bound = sum(row[1] for row in part)
            row = next((numbers, b) for b in (bound, bound - 1, bound - 2, bound - 3, bound - 4, bound - 5)
                       if raised(System, NAMES[:size], ((numbers, b),)) is None or b == bound - 5)
            if raised(System, NAMES[:size], (row,)) is None:
                self.assertTrue(self.check_row(system, row))

    def test_each_box_that_the_row_bars_is_barred(self):
        dice = Dice(68)
        checked = 0
        while checked < 100:
            size = dice.between(1, 3)
            system, row = any_system(dice, size, dice.between(2, 6), 2, 2), any_row(dice, size, 2, 2)
            if plain_sum(system, row) is not None:
                checked += 1
                for _ in range(30):
                    box = any_box(dice, size, 3, 9)
                    if bars_box(row, box):
                        self.assertNotEqual(barring(system, box), ())

    def test_check_plain(self):
        system = System(("x", "y"), (((0, 1), 1), ((1, -1), 0), ((1, 0), 1), ((1, 1), 2)))
        row = ((2, 1), 3)
        for value in ((((1, 1), ZERO, (2, 1), ZERO)), (ZERO, ZERO, (1, 1), (1, 1)), ((1, 2), ZERO, (3, 2), (1, 2))):
            self.assertIsNone(check_plain(system, row, value))
            self.assertEqual(raised(check_plain, system, ((2, 1), 4), value), ("InvalidPaper", 4))
            self.assertEqual(raised(check_plain, system, ((2, 3), 3), value), ("InvalidPaper", 4))
        # The coefficients are given, but something cancels.
        self.assertEqual(raised(check_plain, system, ((2, 1), 0), ((3, 1), (2, 1), ZERO, ZERO)), ("InvalidPaper", 4))
        self.assertEqual(raised(check_plain, system, row, (ZERO,) * 4), ("InvalidPaper", 4))
        self.assertEqual(raised(check_plain, system=system, row=row, value=(ZERO,) * 3), ("InvalidPaper", -1))

    def test_all_plain_combinations_of_two_rows(self):
        dice = Dice(69)
        for _ in range(60):
            size = dice.between(1, 3)
            system, row = any_system(dice, size, 4, 2, 2), any_row(dice, size, 2, 2)
            for one, other in combinations(range(len(system.rows)), 2):
                value = [ZERO] * len(system.rows)
                value[one], value[other] = any_fraction(dice, 2), any_fraction(dice, 2)
                value = tuple(value)
                if value[one][0] < 0 or value[other][0] < 0:
                    continue
                coefficients, bound = given(system, value)
                right = is_plain(system, value) and coefficients == list(row[0]) and bound >= row[1]
                expected = None if right else ("InvalidPaper", len(system.rows))
                self.assertEqual(raised(check_plain, system, row, value), expected)
                if right:
                    self.assertIsNotNone(plain_sum(system, row))


if __name__ == "__main__":
    unittest.main()
