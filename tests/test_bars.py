"""Points [14] to [17]: tops, rows that bar, what they tell, and one pass."""

import unittest
from fractions import Fraction

from rowalone.bars import (barring, bars_box, bottom, crossing, holds, keeps, narrowed, reasons, row_sum, told, told_by,
                           top, top_point, used_ends)
from rowalone.boxes import box_ends, free_box, halves, only_ends, placed, within
from rowalone.papers import point_or_paper
from rowalone.systems import System
from rowalone.texts import read_system
from tests.helpers import (Dice, NAMES, any_box, any_fraction, any_row, any_system, changed, frac, is_barred, is_in,
                           is_kept, no_fractions, odd_values, pair, points_on_grid, raised, sum_at, top_of, wide_rows)

XY = System(("x", "y"), (((1, 1), 1), ((2, -1), 3)))
BOX = (((0, 1), (3, 1)), ((1, 1), (5, 1)))
WITH_BOX = (barring, told, reasons, crossing)


def any_raw_row(dice, size, limit):
    """A row as chapter 4 takes them: with common divisors, perhaps all coefficients 0."""
    numbers = tuple(dice.between(-limit, limit) if dice.chance(2, 3) else 0 for _ in range(size))
    return (numbers, dice.between(-2 * limit, 2 * limit))


def inside(dice, low, high):
    """Some of Python's fractions between two ends, among them the ends."""
    some = [frac(end) for end in (low, high) if end is not None]
    if low is not None and high is not None:
        some.append((some[0] + some[1]) / 2)
    elif some:
        some.append(some[0] + (7 if high is None else -7))
    else:
        some.append(Fraction(dice.between(-50, 50)))
    return some


class Sums(unittest.TestCase):

    def test_sums_and_kept_rows(self):
        self.assertEqual(row_sum(((2, -1), 3), ((1, 2), (1, 3))), (2, 3))
        self.assertEqual(row_sum(((0, 0), 3), ((1, 2), (1, 3))), (0, 1))
        self.assertIs(keeps(((2, -1), 3), ((2, 1), (1, 1))), True)
        self.assertIs(keeps(((2, -1), 3), ((2, 1), (1000001, 1000000))), False)
        self.assertIs(keeps(((4, -2), 6), ((2, 1), (1, 1))), True)
        self.assertIs(keeps(((0, 0), 0), ((2, 1), (1, 1))), True)
        self.assertIs(keeps(point=((2, 1), (1, 1)), row=((0, 0), 1)), False)

    def test_solutions(self):
        self.assertIs(holds(XY, ((2, 1), (1, 1))), True)
        self.assertIs(holds(XY, ((2, 1), (2, 1))), False)
        self.assertIs(holds(System(("x",), ()), ((2, 1),)), True)
        dice = Dice(41)
        for _ in range(100):
            system = any_system(dice, 3, 4, 3, 2)
            for point in points_on_grid(3, ((-1, 2), (0, 1), (2, 1))):
                self.assertIs(holds(system, point), all(is_kept(row, point) for row in system.rows))

    def test_points_are_checked(self):
        for value in odd_values() + [((0, 1),), ((0, 1),) * 3]:
            if not isinstance(value, tuple) or len(value) != 2:
                self.assertEqual(raised(holds, XY, value), ("InvalidPoint", -1), value)
        for item in odd_values() + no_fractions():
            self.assertEqual(raised(holds, XY, ((0, 1), item)), ("InvalidPoint", 1), item)
            self.assertEqual(raised(holds, XY, (item, item)), ("InvalidPoint", 0), item)

    def test_tops_and_bottoms(self):
        row = ((2, -1), 3)
        self.assertEqual((top(row, BOX), bottom(row, BOX)), ((5, 1), (-5, 1)))
        self.assertEqual((top(((0, 0), 3), free_box(XY)), bottom(((0, 0), 3), free_box(XY))), ((0, 1), (0, 1)))
        self.assertIsNone(top(row, (((0, 1), None), BOX[1])))
        self.assertIsNone(top(row, (BOX[0], (None, (5, 1)))))
        self.assertEqual(top(row, ((None, (3, 1)), ((1, 1), None))), (5, 1))
        self.assertIsNone(bottom(row, ((None, (3, 1)), BOX[1])))
        self.assertEqual(bottom(row, (((0, 1), None), (None, (5, 1)))), (-5, 1))
        self.assertEqual(top(((0, 3), 1), ((None, None), (None, (1, 3)))), (1, 1))

    def test_against_python(self):
        dice = Dice(42)
        for limit in (3, 10 ** 6):
            for _ in range(300):
                size = dice.between(1, 6)
                row = any_raw_row(dice, size, limit)
                box = any_box(dice, size, dice.pick((3, 10 ** 9)), 9)
                self.assertEqual(top(row, box), pair(top_of(row, box)) if top_of(row, box) is not None else None)
                turned = (tuple(-number for number in row[0]), row[1])
                least = top_of(turned, box)
                self.assertEqual(bottom(row, box), None if least is None else pair(-least))
                self.assertIs(bars_box(row, box), is_barred(row, box))
                point = top_point(row, box)
                self.assertEqual(point is None, top_of(row, box) is None)
                if point is not None:
                    self.assertTrue(is_in(point, box))
                    self.assertEqual(sum_at(row, point), top_of(row, box))

    def test_top_points_where_coefficients_are_zero(self):
        point = top_point(((0, 1), 0), (((7, 2), None), (None, (1, 1))))
        self.assertTrue(is_in(point, (((7, 2), None), (None, (1, 1)))))
        self.assertEqual(len(top_point(((0, 0), 5), ((None, None), (None, None)))), 2)

    def test_tops_of_a_sum_of_two_rows(self):
        dice = Dice(43)
        for _ in range(300):
            size = dice.between(1, 4)
            one, other = any_raw_row(dice, size, 4), any_raw_row(dice, size, 4)
            box = any_box(dice, size, 5, 10)
            both = (tuple(a + b for a, b in zip(one[0], other[0])), one[1] + other[1])
            total = frac(top(both, box))
            for a, b, (low, high) in zip(one[0], other[0], box):
                if a * b < 0:
                    total += min(abs(a), abs(b)) * (frac(high) - frac(low))
            self.assertEqual(frac(top(one, box)) + frac(top(other, box)), total)


class Barring(unittest.TestCase):

    def test_which_rows_bar(self):
        self.assertEqual(barring(XY, (((0, 1), (1, 4)), (None, (1, 4)))), (0,))
        self.assertEqual(barring(XY, (((0, 1), (1, 4)), ((0, 1), (1, 4)))), (0, 1))
        self.assertEqual(barring(XY, free_box(XY)), ())
        self.assertEqual(barring(System(("x",), ()), (((0, 1), (0, 1)),)), ())
        # A top that equals the bound does not bar.
        self.assertEqual(barring(XY, (((0, 1), (1, 1)), ((-1, 1), (0, 1)))), ())

    def test_rows_that_any_row_may_be(self):
        self.assertIs(bars_box(((0, 0), 1), free_box(XY)), True)
        self.assertIs(bars_box(((0, 0), 0), free_box(XY)), False)
        self.assertIs(bars_box(row=((2, 2), 4), box=((None, (1, 1)), (None, (1, 1)))), False)
        self.assertIs(bars_box(((2, 2), 5), ((None, (1, 1)), (None, (1, 1)))), True)

    def test_used_ends(self):
        self.assertEqual(used_ends(((2, -1, 0), 3)), ((0, 1), (1, 0)))
        self.assertEqual(used_ends(((0, 0, 0), 3)), ())
        self.assertEqual(used_ends(row=((-2,), 3)), ((0, 0),))

    def test_boxes_are_checked(self):
        for call in WITH_BOX:
            for value in odd_values() + [BOX[:1], BOX + BOX, list(BOX)]:
                if not isinstance(value, tuple) or len(value) != 2:
                    self.assertEqual(raised(call, XY, value), ("InvalidBox", -1), value)
            for item in odd_values() + [((1, 1), (0, 1)), ((True, 1), None), [None, None]]:
                self.assertEqual(raised(call, XY, (BOX[0], item)), ("InvalidBox", 1), item)
                self.assertEqual(raised(call, XY, (item, item)), ("InvalidBox", 0), item)

    def test_what_bars_and_what_does_not(self):
        dice = Dice(44)
        seen = {True: 0, False: 0}
        for _ in range(500):
            size = dice.between(1, 4)
            row = any_raw_row(dice, size, 4)
            box = any_box(dice, size, 3, 8)
            bars = bars_box(row, box)
            seen[bars] += 1
            point = top_point(row, box)
            if bars:
                self.assertFalse(is_kept(row, point))
                self.assertTrue(bars_box(row, only_ends(box, used_ends(row))))
                for end in used_ends(row):
                    ends = tuple(other for other in box_ends(box) if other != end)
                    self.assertFalse(bars_box(row, only_ends(box, ends)))
                part = tuple((low, high) if high is None else (high, high) for low, high in box)
                self.assertTrue(bars_box(row, part))
            elif point is not None:
                self.assertTrue(is_in(point, box) and is_kept(row, point))
            at, value = dice.below(size), any_fraction(dice, 3)
            some = [half for half in halves(box, at, value) if half is not None]
            self.assertIs(bars, all(bars_box(row, half) for half in some))
        self.assertGreater(min(seen.values()), 50)


class OneRow(unittest.TestCase):

    def test_examples(self):
        row = ((2, -1), 3)
        self.assertEqual((top(row, BOX), told_by(row, BOX, 0)), ((5, 1), ((2, 1), (3, 1))))
        self.assertEqual(narrowed(row, BOX), (((2, 1), (3, 1)), ((1, 1), (3, 1))))

    def test_what_is_told(self):
        self.assertEqual(told_by(((2, -1), 3), free_box(XY), 0), (None, None))
        self.assertEqual(told_by(((2, -1), 3), ((None, None), ((1, 1), None)), 0), ((2, 1), None))
        self.assertEqual(told_by(((2, -1), 3), (((5, 1), None), ((1, 1), None)), 0), ((5, 1), None))
        self.assertEqual(told_by(((2, -1), 3), (((2, 1), None), ((1, 1), None)), 0), ((2, 1), None))
        self.assertEqual(told_by(((2, -1), 3), ((None, (1, 2)), ((-9, 1), None)), 1), ((-9, 1), (-2, 1)))
        self.assertEqual(told_by(((0, -1), 3), free_box(XY), 1), (None, (-3, 1)))
        self.assertEqual(told_by(((0, -1), 3), free_box(XY), 0), (None, None))
        self.assertEqual(told_by(((0, 0), 3), BOX, 1), BOX[1])
        self.assertEqual(told_by(at=0, box=BOX, row=((4, -2), 6)), ((2, 1), (3, 1)))
        # Where the row bars, the low may be above the high.
        self.assertEqual(told_by(((1, 1), 9), BOX, 0), ((4, 1), (3, 1)))

    def test_narrowed(self):
        self.assertIsNone(narrowed(((1, 1), 9), BOX))
        self.assertEqual(narrowed(((1, 1), 8), BOX), (((3, 1), (3, 1)), ((5, 1), (5, 1))))
        self.assertEqual(narrowed(((0, 0), 0), BOX), BOX)
        self.assertIsNone(narrowed(((0, 0), 1), BOX))

    def test_the_fractions_at_points_that_keep_the_row(self):
        dice = Dice(45)
        for _ in range(400):
            size = dice.between(1, 4)
            row, box = any_raw_row(dice, size, 3), any_box(dice, size, 4)
            if bars_box(row, box):
                self.assertIsNone(narrowed(row, box))
                continue
            least = narrowed(row, box)
            self.assertEqual(least, tuple(told_by(row, box, at) for at in range(size)))
            self.assertTrue(within(least, box))
            self.assertEqual(narrowed(row, least), least)
            for at, (low, high) in enumerate(least):
                for value in inside(dice, low, high):
                    self.assertFalse(bars_box(row, placed(box, at, pair(value))))
                for end, side, step in ((low, 0, -1), (high, 1, 1)):
                    if end is not None and end != box[at][side]:
                        value = pair(frac(end) + step * Fraction(1, 10 ** 12))
                        self.assertTrue(bars_box(row, placed(box, at, value)))


class OnePass(unittest.TestCase):

    def test_example(self):
        system, box = read_system("x + y >= 1\ny - x >= 1"), ((None, None), (None, (1, 2)))
        self.assertEqual((barring(system, box), told(system, box)), ((), (((1, 2), (-1, 2)), (None, (1, 2)))))
        self.assertEqual(system.rows, (((-1, 1), 1), ((1, 1), 1)))
        self.assertEqual(crossing(system, box), (0, (0, 1), 1, 0))
        self.assertEqual(reasons(system, box), ((1, 0), (None, None)))

    def test_no_rows(self):
        system = System(("x", "y"), ())
        self.assertEqual(told(system, BOX), BOX)
        self.assertEqual(reasons(system, BOX), ((None, None), (None, None)))
        self.assertIsNone(crossing(system, BOX))

    def test_first_rows_are_the_reasons(self):
        system = System(("x",), (((-2,), 1), ((-1,), 0), ((1,), 2), ((2,), 3)))
        self.assertEqual(told(system, ((None, None),)), (((2, 1), (-1, 2)),))
        self.assertEqual(reasons(system, ((None, None),)), ((2, 0),))
        # Two rows tell the same low: the first one is named.
        system = System(("x", "y"), (((1, 0), 1), ((1, 1), 1), ((2, 0), 1)))
        self.assertEqual(reasons(system, ((None, None), (None, (0, 1))))[0], (0, None))
        self.assertEqual(told(system, ((None, None), (None, (0, 1)))), (((1, 1), None), (None, (0, 1))))
        # An end that the box has is no row's.
        self.assertEqual(reasons(system, (((1, 1), None), (None, (0, 1))))[0], (None, None))

    def test_told_is_the_sharpest_of_all_rows(self):
        dice = Dice(46)
        for _ in range(200):
            size = dice.between(1, 4)
            system, box = any_system(dice, size, dice.between(0, 6), 3, 3), any_box(dice, size, 4)
            for at in range(size):
                each = [told_by(row, box, at) for row in system.rows] + [box[at]]
                lows = [frac(low) for low, _ in each if low is not None]
                highs = [frac(high) for _, high in each if high is not None]
                low, high = told(system, box)[at]
                self.assertEqual(frac(low), max(lows) if lows else None)
                self.assertEqual(frac(high), min(highs) if highs else None)
                expected = []
                for side, end in ((0, low), (1, high)):
                    rows = [number for number, ends in enumerate(each) if ends[side] == end]
                    expected.append(None if end is None or end == box[at][side] else rows[0])
                self.assertEqual(reasons(system, box)[at], tuple(expected))

    def test_what_can_be_placed(self):
        dice = Dice(47)
        for _ in range(250):
            size = dice.between(1, 3)
            system, box = any_system(dice, size, dice.between(0, 5), 3, 3), any_box(dice, size, 3)
            if barring(system, box):
                continue
            for at, (low, high) in enumerate(told(system, box)):
                some = inside(dice, *box[at]) + inside(dice, low, high)
                some += [value + step * Fraction(1, 10 ** 9) for value in list(some) for step in (-1, 1)]
                for value in some:
                    if is_in((pair(value),), (box[at],)):
                        expected = ((low is None or frac(low) <= value) and (high is None or value <= frac(high)))
                        self.assertEqual(barring(system, placed(box, at, pair(value))) == (), expected)

    def test_all_solutions_are_between_the_told_ends(self):
        dice = Dice(48)
        for _ in range(150):
            size = dice.between(1, 3)
            system, box = any_system(dice, size, dice.between(1, 5), 3, 3), any_box(dice, size, 3)
            for at, (low, high) in enumerate(told(system, box)):
                for end, side, step in ((low, 0, -1), (high, 1, 1)):
                    if end is None or end == box[at][side]:
                        continue
                    beyond = pair(frac(end) + step * Fraction(1, 10 ** 6))
                    part = halves(box, at, beyond)[side]
                    if part is not None:
                        self.assertEqual(point_or_paper(system, part)[0], "paper")

    def test_crossings(self):
        dice = Dice(49)
        seen = [0, 0, 0]
        for _ in range(600):
            size = dice.between(1, 3)
            system, box = any_system(dice, size, dice.between(1, 6), 3, 3), any_box(dice, size, 3, 4)
            if barring(system, box):
                seen[0] += 1
                self.assertEqual(raised(crossing, system, box), ("Refused", "barred"))
                continue
            crossed = [at for at, (low, high) in enumerate(told(system, box))
                       if low is not None and high is not None and frac(low) > frac(high)]
            found = crossing(system, box)
            self.assertEqual(found is None, not crossed)
            if not crossed:
                seen[1] += 1
                continue
            seen[2] += 1
            at, value, one, other = found
            low, high = told(system, box)[at]
            self.assertEqual(at, crossed[0])
            self.assertEqual(frac(value), (frac(low) + frac(high)) / 2)
            self.assertEqual((one, other), reasons(system, box)[at])
            self.check_halves(system, box, found, frac(high), frac(low))
        self.assertGreater(min(seen), 30)

    def check_halves(self, system, box, found, first, last):
        at, value, one, other = found
        step = (last - first) / 1000
        for place in (first + step, frac(value), last - step):
            lower, upper = halves(box, at, pair(place))
            self.assertTrue(bars_box(system.rows[one], lower))
            self.assertTrue(bars_box(system.rows[other], upper))
        for place in (first - 5, first - step, first, last, last + step, last + 5):
            some = [half for half in halves(box, at, pair(place)) if half is not None]
            self.assertFalse(len(some) == 2 and all(barring(system, half) for half in some))

    def test_the_mean_of_unlike_bottoms(self):
        system = read_system("3 x >= 1\n2 x <= -1")
        self.assertEqual(crossing(system, ((None, None),)), (0, (-1, 12), 1, 0))

    def test_sixty_rows_of_great_numbers(self):
        rows = tuple(((10 ** 6, number - 10 ** 6), 10 ** 6 - 1) for number in range(60))
        system = System(("x", "y"), rows)
        self.assertEqual(len(system.rows), 60)
        box = ((None, None), ((10 ** 9, 10 ** 9 - 1), (10 ** 9, 7)))
        low = max((row[1] - row[0][1] * (frac(box[1][0]))) / row[0][0] for row in rows)
        self.assertEqual(told(system, box)[0], (pair(low), None))
        self.assertEqual(barring(System(("x", "y"), wide_rows(60)), (((0, 1), (0, 1)), (None, (-1, 1)))),
                         tuple(range(1, 60)))

    def test_six_names(self):
        system = System(NAMES, (((1, 1, 1, 1, 1, -1), 3),))
        box = ((None, (1, 1)),) * 5 + (((-1, 1), None),)
        self.assertEqual(told(system, box), (((-2, 1), (1, 1)),) * 5 + (((-1, 1), (2, 1)),))
        self.assertEqual(told(system, changed(box, 3, (None, None)))[3], ((-2, 1), None))


class RowsForOneSystem(unittest.TestCase):

    def test_any_row_and_box_agree_with_the_system(self):
        dice = Dice(50)
        for _ in range(100):
            row, box = any_row(dice, 3, 4, 4), any_box(dice, 3, 3)
            system = System(NAMES[:3], (row,))
            self.assertEqual(told(system, box), tuple(told_by(row, box, at) for at in range(3)))
            self.assertEqual(barring(system, box), (0,) if bars_box(row, box) else ())


if __name__ == "__main__":
    unittest.main()
