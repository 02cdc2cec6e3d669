"""Points [32] to [35]: what combinations show, least sums, exact ranges, and bounds by few rows."""

import unittest
from fractions import Fraction
from itertools import product

from rowalone.bars import told
from rowalone.boxes import box_ends, check_box, free_box, placed
from rowalone.court import Gap, court, is_single
from rowalone.papers import check_combination, point_or_paper
from rowalone.ranges import check_least, exact_ranges, inexact, least_sum, plain_bound, row_bound, shown
from rowalone.systems import System, system_of
from rowalone.texts import read_system
from tests.helpers import (Anything, Dice, NAMES, any_box, any_numbers, any_row, any_system, changed, frac, given,
                           is_in, is_kept, is_plain_in_python, no_fractions, odd_values, pair, raised, wrong_boxes,
                           wrong_combinations)

ZERO = (0, 1)
PAIR = System(("x", "y"), (((1, 2), 5), ((2, 1), 5)))
TEN = ((ZERO, (10, 1)), (ZERO, (10, 1)))
CHAIN = System(("x", "y", "z"), (((0, 1, -1), 0), ((1, -1, 0), 0)))
EMPTY = ((None, ZERO), (None, None), ((1, 1), None))


def shown_by_hand(system, box, coefficients, numbers):
    """By the words, in Python's own fractions."""
    parts, total = given(system, numbers)
    for number, part, (low, high) in zip(coefficients, parts, box):
        rest = number - part
        if rest != 0:
            end = low if rest > 0 else high
            if end is None:
                return None
            total += rest * frac(end)
    return total


def is_empty(system, box):
    return point_or_paper(system, box)[0] == "paper"


def any_case(dice, most=4):
    """A system, a box and coefficients; the box often has a solution."""
    size = dice.between(1, most)
    system = any_system(dice, size, dice.between(0, 6), dice.pick((1, 2, 3)), 3)
    box = any_box(dice, size, dice.pick((4, 9)), dice.between(2, 10))
    return system, box, tuple(dice.between(-2, 2) for _ in range(size))


def any_full_case(dice, most=4):
    while True:
        case = any_case(dice, most)
        if not is_empty(*case[:2]):
            return case


class Shown(unittest.TestCase):

    def test_ordinary_inputs(self):
        self.assertEqual(shown(PAIR, TEN, (1, 1), ((1, 3), (1, 3))), (10, 3))
        self.assertEqual(shown(PAIR, TEN, (1, 1), (ZERO, ZERO)), ZERO)
        self.assertEqual(shown(PAIR, TEN, (1, 1), (ZERO, (1, 1))), (-5, 1))
        self.assertEqual(shown(numbers=((1, 2), ZERO), coefficients=(1, 1), box=TEN, system=PAIR), (5, 2))
        self.assertIsNone(shown(PAIR, ((ZERO, None), (None, None)), (1, 1), (ZERO, (1, 1))))
        self.assertEqual(shown(PAIR, ((None, None), (None, None)), (1, 2), ((1, 1), ZERO)), (5, 1))
        self.assertEqual(shown(System(("x",), ()), ((None, ZERO),), (0,), ()), ZERO)

    def test_errors_in_their_order(self):
        for value, at in wrong_boxes(2):
            self.assertEqual(raised(shown, PAIR, value, (1, 1), None), ("InvalidBox", at), value)
        for value, at in wrong_combinations(2):
            self.assertEqual(raised(shown, PAIR, TEN, (1, 1), value), ("InvalidPaper", at), value)

    def test_boxes_without_solutions(self):
        self.assertEqual(shown(CHAIN, EMPTY, (1, 0, 0), ((1, 1), (1, 1))), (1, 1))
        self.assertIsNone(shown(CHAIN, EMPTY, (1, 0, 0), (ZERO, ZERO)))

    def test_no_solution_has_a_smaller_sum(self):
        dice = Dice(391)
        seen = 0
        for _ in range(400):
            system, box, coefficients = any_case(dice)
            numbers = any_numbers(dice, len(system.rows), 3, 4)
            value = shown(system, box, coefficients, numbers)
            self.assertEqual(frac(value), shown_by_hand(system, box, coefficients, numbers))
            word, point = point_or_paper(system, box)
            if word == "point" and value is not None:
                seen += 1
                self.assertGreaterEqual(sum(n * frac(v) for n, v in zip(coefficients, point)), frac(value))
        self.assertGreater(seen, 50)


class LeastSums(unittest.TestCase):

    def test_examples(self):
        self.assertEqual(least_sum(PAIR, TEN, (1, 1)), ((10, 3), ((5, 3), (5, 3)), ((1, 3), (1, 3))))

    def test_errors_in_their_order(self):
        calls = ((least_sum, ((1, 0, 0),)), (exact_ranges, ()), (inexact, ()), (row_bound, ((1, 0, 0),)),
                 (plain_bound, ((1, 0, 0),)))
        for call, more in calls:
            for value, at in wrong_boxes(3):
                self.assertEqual(raised(call, CHAIN, value, *more), ("InvalidBox", at), value)
            self.assertEqual(raised(call, CHAIN, EMPTY, *more), ("Refused", "empty"))
            # One row alone bars it, or the system has no solution.
            self.assertEqual(raised(call, CHAIN, (EMPTY[0], (ZERO, ZERO), EMPTY[2]), *more), ("Refused", "empty"))
            clash = read_system("x + y + z >= 1\nx + y + z <= 0")
            self.assertEqual(raised(call, clash, free_box(clash), *more), ("Refused", "empty"))
        self.assertEqual(raised(least_sum, CHAIN, EMPTY, (0, 0, 0)), ("Refused", "empty"))

    def test_sums_as_small_as_one_likes(self):
        self.assertIsNone(least_sum(PAIR, ((None, None), (None, None)), (1, -1)))
        self.assertIsNone(least_sum(System(("x",), ()), ((None, ZERO),), (1,)))
        self.assertEqual(least_sum(System(("x",), ()), ((None, ZERO),), (-2,)), (ZERO, (ZERO,), ()))
        value, point, numbers = least_sum(PAIR, ((None, None), (None, None)), (0, 0))
        self.assertEqual((value, numbers), (ZERO, (ZERO, ZERO)))
        self.assertTrue(all(is_kept(row, point) for row in PAIR.rows))

    def test_least_sums(self):
        dice = Dice(392)
        seen = {True: 0, False: 0}
        for _ in range(400):
            system, box, coefficients = any_full_case(dice)
            found = least_sum(coefficients=coefficients, box=box, system=system)
            seen[found is None] += 1
            if found is None:
                # There are solutions with sums below what one likes.
                low = (tuple(-number for number in coefficients), 10 ** 6)
                self.assertFalse(is_empty(system_of(system.names, system.rows + (low,)), box))
                continue
            value, point, numbers = found
            self.assertTrue(is_in(point, box) and all(is_kept(row, point) for row in system.rows))
            self.assertEqual(sum(n * frac(v) for n, v in zip(coefficients, point)), frac(value))
            self.assertEqual(shown(system, box, coefficients, numbers), value)
            self.assertIsNone(check_least(system, box, coefficients, found))
        self.assertGreater(min(seen.values()), 60)

    def test_great_numbers(self):
        dice = Dice(393)
        for _ in range(8):
            system = any_system(dice, 6, 60, 10 ** 6, 10 ** 6)
            system = System(NAMES, tuple(sorted((row[0], -abs(row[1])) for row in system.rows)))
            box = tuple(((-dice.between(0, 10 ** 9), 1), None) for _ in range(6))
            coefficients = tuple(dice.between(-10 ** 6, 10 ** 6) for _ in range(6))
            found = least_sum(system, box, coefficients)
            if found is not None:
                self.assertIsNone(check_least(system, box, coefficients, found))

    def test_check_least(self):
        right = ((10, 3), ((5, 3), (5, 3)), ((1, 3), (1, 3)))
        self.assertIsNone(check_least(PAIR, TEN, (1, 1), right))
        self.assertIsNone(check_least(value=right, coefficients=(1, 1), box=TEN, system=PAIR))
        for value in odd_values() + [right[:2], right + right, list(right), Anything()]:
            if not isinstance(value, tuple) or len(value) != 3:
                self.assertEqual(raised(check_least, PAIR, TEN, (1, 1), value), ("InvalidPaper", -1), value)
        for item in odd_values() + no_fractions():
            self.assertEqual(raised(check_least, PAIR, TEN, (1, 1), (item, None, None)), ("InvalidPaper", 0), item)
        points = [((5, 3),), ((5, 3),) * 3, [(5, 3)] * 2, ((10, 3), ZERO), ((2, 1), (4, 3)), ((5, 3), (2, 1)),
                  ((10, 6), (5, 3)), ((-5, 3), (5, 1))]
        for item in points + odd_values():
            self.assertEqual(raised(check_least, PAIR, TEN, (1, 1), changed(right, 1, item)), ("InvalidPaper", 1), item)
        for item in [((1, 3), ZERO), ((1, 3), (1, 2)), ((1, 1), (1, 1)), (ZERO, ZERO)]:
            self.assertEqual(raised(check_least, PAIR, TEN, (1, 1), changed(right, 2, item)), ("InvalidPaper", 2), item)
        for item, _ in wrong_combinations(2):
            self.assertEqual(raised(check_least, PAIR, TEN, (1, 1), changed(right, 2, item)), ("InvalidPaper", 2), item)
        # Several wrong items: the first one is named.
        self.assertEqual(raised(check_least, PAIR, TEN, (1, 1), (None, None, None)), ("InvalidPaper", 0))
        self.assertEqual(raised(check_least, PAIR, TEN, (1, 1), ((11, 3), right[1], None)), ("InvalidPaper", 1))
        self.assertEqual(raised(check_least, PAIR, ((ZERO, (1, 1)), TEN[1]), (1, 1), right), ("InvalidPaper", 1))

    def test_check_least_with_boxes(self):
        for value, at in wrong_boxes(2):
            self.assertEqual(raised(check_least, PAIR, value, (1, 1), None), ("InvalidBox", at), value)
        # An empty box is not refused: no point is a solution in it.
        self.assertEqual(raised(check_least, CHAIN, EMPTY, (1, 0, 0), (ZERO, (ZERO,) * 3, (ZERO, ZERO))),
                         ("InvalidPaper", 1))
        # A solution with this sum that is not the least one is shown by no combination.
        self.assertEqual(raised(check_least, PAIR, TEN, (1, 1), ((4, 1), ((2, 1), (2, 1)), ((1, 3), (1, 3)))),
                         ("InvalidPaper", 2))
        # A combination that shows no sum.
        self.assertEqual(raised(check_least, PAIR, ((None, None), (None, None)), (1, 1),
                                ((10, 3), ((5, 3), (5, 3)), (ZERO, ZERO))), ("InvalidPaper", 2))


class Ranges(unittest.TestCase):

    def test_ordinary_inputs(self):
        self.assertEqual(exact_ranges(CHAIN, ((None, (1, 2)), (None, None), (ZERO, None))),
                         ((ZERO, (1, 2)),) * 3)
        self.assertEqual(inexact(CHAIN, ((None, (1, 2)), (None, None), (ZERO, None))), ((0, 0), (2, 1)))
        self.assertEqual(exact_ranges(System(("x", "y"), ()), ((None, ZERO), ((1, 3), None))),
                         ((None, ZERO), ((1, 3), None)))
        self.assertEqual(inexact(box=((None, ZERO), ((1, 3), None)), system=System(("x", "y"), ())), ())

    def test_exact_ranges(self):
        dice = Dice(394)
        ends_seen = 0
        for _ in range(200):
            system, box, _ = any_full_case(dice)
            ranges = exact_ranges(system, box)
            self.assertIsNone(check_box(system, ranges))
            for at, ends in enumerate(ranges):
                for side, end in enumerate(ends):
                    sign = 1 if side else -1
                    if end is None:
                        self.assertIsNone(box[at][side])
                        self.assertFalse(is_empty(system, placed(box, at, (sign * 10 ** 9, 1))))
                    else:
                        ends_seen += end != box[at][side]
                        self.assertFalse(is_empty(system, placed(box, at, end)))
                        beyond = pair(frac(end) + Fraction(sign, 10 ** 9))
                        outside = box[at][side] is not None and sign * (frac(beyond) - frac(box[at][side])) > 0
                        self.assertTrue(outside or is_empty(system, placed(box, at, beyond)))
            differ = tuple((at, side) for at, both in enumerate(told(system, box)) for side in (0, 1)
                           if both[side] != ranges[at][side])
            self.assertEqual(inexact(system, box), differ)
        self.assertGreater(ends_seen, 100)

    def test_single_systems_have_no_inexact_ends(self):
        dice = Dice(395)
        seen = {True: 0, False: 0}
        while min(seen.values()) < 40:
            system = any_system(dice, dice.between(2, 4), dice.between(2, 4), 1, 1)
            single = is_single(system)
            if is_empty(system, free_box(system)):
                continue
            seen[single] += 1
            if single and seen[single] < 100:
                for _ in range(6):
                    box = any_box(dice, len(system.names), 4, 7)
                    if not is_empty(system, box):
                        self.assertEqual(inexact(system, box), ())
            elif not single and seen[single] < 100:
                # Moved as far as it takes, the empty box of the gap has a solution and an inexact end.
                self.assertNotEqual(inexact(system, self.loosened(system, court(system).box)), ())

    def loosened(self, system, box):
        """A box that some end makes empty, with this end at the exact range of the others."""
        wider = box
        for at, side in box_ends(box):
            ends = list(wider[at])
            ends[side] = None
            wider = changed(wider, at, tuple(ends))
            if not is_empty(system, wider):
                ends[side] = exact_ranges(system, wider)[at][1 - side]
                return changed(wider, at, tuple(ends))
        return box

    def test_the_point_of_all_lows(self):
        dice = Dice(396)
        checked = 0
        while checked < 60:
            size = dice.between(1, 4)
            rows = [row for row in (any_row(dice, size, 2, 3) for _ in range(6)) if sum(n > 0 for n in row[0]) < 2]
            system = system_of(NAMES[:size], tuple(rows))
            box = any_box(dice, size, 4, 7)
            if not is_empty(system, box):
                lows = [low for low, _ in exact_ranges(system, box)]
                if None not in lows:
                    checked += 1
                    self.assertTrue(is_in(lows, box) and all(is_kept(row, lows) for row in system.rows))


class Bounds(unittest.TestCase):

    def test_examples(self):
        self.assertEqual((row_bound(PAIR, TEN, (1, 1))[0], plain_bound(PAIR, TEN, (1, 1))),
                         ((5, 2), ((10, 3), ((1, 3), (1, 3)))))

    def test_none_and_no_rows(self):
        free = ((None, None), (None, None))
        for call in (row_bound, plain_bound):
            self.assertIsNone(call(PAIR, free, (1, -1)))
            self.assertEqual(call(System(("x",), ()), ((ZERO, None),), (3,)), (ZERO, ()))
            self.assertIsNone(call(System(("x",), ()), ((ZERO, None),), (-3,)))
            self.assertEqual(call(PAIR, free, (0, 0)), (ZERO, (ZERO, ZERO)))
            self.assertEqual(call(coefficients=(2, 4), box=free, system=PAIR), ((10, 1), ((2, 1), ZERO)))
        self.assertIsNone(row_bound(PAIR, free, (1, 1)))
        self.assertEqual(plain_bound(PAIR, free, (1, 1))[0], (10, 3))

    def test_by_the_words(self):
        dice = Dice(397)
        seen = {"row": 0, "plain": 0, "least": 0, "none": 0}
        for _ in range(1200):
            system, box, coefficients = any_full_case(dice)
            one, plain = row_bound(system, box, coefficients), plain_bound(system, box, coefficients)
            least = least_sum(system, box, coefficients)
            for found in (one, plain):
                if found is not None:
                    self.assertIsNotNone(least)
                    self.assertEqual(shown_by_hand(system, box, coefficients, found[1]), frac(found[0]))
                    self.assertIsNone(check_combination(system, found[1]))
                    self.assertTrue(is_plain_in_python(system, found[1]))
                    self.assertLessEqual(frac(found[0]), frac(least[0]))
            if one is not None:
                self.assertLessEqual(sum(number != ZERO for number in one[1]), 1)
                self.assertLessEqual(frac(one[0]), frac(plain[0]))
                seen["row" if one[0] == plain[0] else "plain"] += 1
            if plain is None:
                seen["none"] += 1
            elif plain[0] != least[0]:
                seen["least"] += 1
            self.check_others(dice, system, box, coefficients, one, plain)
        self.assertGreater(min(seen.values()), 8)

    def check_others(self, dice, system, box, coefficients, one, plain):
        """No other combination of this kind shows a greater sum."""
        for number in range(len(system.rows)):
            for part in {Fraction(a, b) for a in range(7) for b in (1, 2, 3)}:
                numbers = changed((ZERO,) * len(system.rows), number, pair(part))
                value = shown_by_hand(system, box, coefficients, numbers)
                self.assertTrue(value is None or (one is not None and value <= frac(one[0])))
        for _ in range(20):
            numbers = any_numbers(dice, len(system.rows), 3, 3)
            value = shown_by_hand(system, box, coefficients, numbers)
            if value is not None and is_plain_in_python(system, numbers):
                self.assertTrue(plain is not None and value <= frac(plain[0]))

    def test_one_unknown(self):
        dice = Dice(398)
        for _ in range(200):
            system, box, _ = any_full_case(dice)
            for at, (low, high) in enumerate(told(system, box)):
                for sign, end in ((1, low), (-1, None if high is None else pair(-frac(high)))):
                    found = row_bound(system, box, changed((0,) * len(box), at, sign))
                    self.assertEqual(None if found is None else found[0], end)

    def test_single_systems_show_least_sums_by_plain_combinations(self):
        dice = Dice(399)
        seen = {True: 0, False: 0}
        while min(seen.values()) < 40:
            system = any_system(dice, dice.between(2, 4), dice.between(2, 4), 1, 1)
            verdict = court(system)
            if is_empty(system, free_box(system)):
                continue
            single = not isinstance(verdict, Gap)
            seen[single] += 1
            if single and seen[single] < 100:
                for _ in range(5):
                    box = any_box(dice, len(system.names), 4, 7)
                    coefficients = any_row(dice, len(system.names), 2, 1)[0]
                    if not is_empty(system, box):
                        least, plain = (call(system, box, coefficients) for call in (least_sum, plain_bound))
                        self.assertEqual(None if least is None else least[0], None if plain is None else plain[0])
            elif not single and seen[single] < 100:
                one, other = system.rows[verdict.one][0], system.rows[verdict.other][0]
                coefficients = tuple(-other[verdict.at] * a + one[verdict.at] * b for a, b in zip(one, other))
                free = free_box(system)
                least, plain = (call(system, free, coefficients) for call in (least_sum, plain_bound))
                self.assertTrue(plain is None or frac(plain[0]) < frac(least[0]))

    def test_all_sign_patterns(self):
        # Each of 64 patterns of signs has rows of its own, and the best ones are those of the last signs.
        rows = tuple((numbers, sum(numbers)) for numbers in product((-1, 1), repeat=6))
        system = System(NAMES, tuple(sorted(rows))[-60:])
        box = (((1, 1), None),) * 6
        value, numbers = plain_bound(system, box, (1,) * 6)
        self.assertEqual(value, (6, 1))
        self.assertEqual(least_sum(system, box, (1,) * 6)[0], (6, 1))
        self.assertEqual(shown(system, box, (1,) * 6, numbers), (6, 1))


if __name__ == "__main__":
    unittest.main()
