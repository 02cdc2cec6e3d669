"""Points [36] and [37]: values chosen by single rows, and nearest solutions."""

import unittest
from fractions import Fraction
from itertools import permutations

from rowalone.bars import barring, reasons, told
from rowalone.boxes import box_ends, free_box, placed
from rowalone.chosen import Stuck, chosen, nearest_solution
from rowalone.court import Gap, court
from rowalone.papers import point_or_paper
from rowalone.ranges import exact_ranges
from rowalone.systems import System, unit
from rowalone.texts import read_system
from tests.helpers import (Anything, Dice, NAMES, any_box, any_fraction, any_system, frac, is_in, is_kept, pair,
                           raised, sum_at, wrong_boxes)

ZERO = (0, 1)
CHAIN = System(("x", "y", "z"), (((0, 1, -1), 0), ((1, -1, 0), 0)))
CLOSED = System(("x", "y", "z"), CHAIN.rows + (((1, 0, -1), 0),))
WISHES = ((0, 1), (1, 1), (2, 1))
FREE = ((None, None),) * 3
EMPTY = ((None, ZERO), (None, None), ((1, 1), None))


def nearest(low, high, wish):
    """The value between two ends that is nearest to a wish, in Python's own fractions."""
    values = [frac(end) for end in (low, high, wish) if end is not None]
    inside = [value for value in values if (low is None or value >= frac(low)) and (high is None or value <= frac(high))]
    return pair(min(inside, key=lambda value: abs(value - frac(wish))))


def any_order(dice, size):
    some = list(range(size))
    return tuple(some.pop(dice.below(len(some))) for _ in range(size))


def rank(rows):
    rows = [[Fraction(number) for number in row] for row in rows]
    found = 0
    for at in range(len(rows[0]) if rows else 0):
        pivot = next((row for row in rows[found:] if row[at] != 0), None)
        if pivot is not None:
            rows.remove(pivot)
            rows.insert(found, pivot)
            rows[found + 1:] = [[one - row[at] / pivot[at] * other for one, other in zip(row, pivot)]
                                for row in rows[found + 1:]]
            found += 1
    return found


class Chosen(unittest.TestCase):

    def test_examples(self):
        self.assertEqual((chosen(CHAIN, FREE, (0, 1, 2), WISHES), nearest_solution(CHAIN, FREE, (2, 1, 0), WISHES)),
                         ((ZERO,) * 3, ((2, 1),) * 3))
        stuck = chosen(CHAIN, EMPTY, (0, 1, 2), WISHES)
        self.assertEqual((stuck.at, stuck.one, stuck.other, stuck.box[0]), (1, 0, 1, (ZERO, ZERO)))
        self.assertEqual(stuck.box[1:], EMPTY[1:])

    def test_errors_in_their_order(self):
        for value, at in wrong_boxes(3):
            self.assertEqual(raised(chosen, CHAIN, value, (0, 1, 2), WISHES), ("InvalidBox", at), value)
            self.assertEqual(raised(nearest_solution, CHAIN, value, (0, 1, 2), WISHES), ("InvalidBox", at), value)
        self.assertEqual(raised(chosen, CLOSED, EMPTY, (0, 1, 2), WISHES), ("Refused", "barred"))
        for system in (CHAIN, CLOSED):
            self.assertEqual(raised(nearest_solution, system, EMPTY, (0, 1, 2), WISHES), ("Refused", "empty"))
        without = read_system("x >= 1\nx <= 0")
        self.assertEqual(raised(nearest_solution, without, ((None, None),), (0,), (ZERO,)), ("Refused", "empty"))
        self.assertEqual(raised(chosen, without, ((ZERO, ZERO),), (0,), (ZERO,)), ("Refused", "barred"))
        self.assertIsInstance(chosen(without, ((None, None),), (0,), (ZERO,)), Stuck)

    def test_a_stuck_of_any_values(self):
        thing = Anything()
        stuck = Stuck(box=thing, at=None, one="x", other=[1])
        self.assertEqual((stuck.box, stuck.at, stuck.one, stuck.other), (thing, None, "x", [1]))
        self.assertEqual(sorted(vars(Stuck(1, 2, 3, 4)).items()), [("at", 2), ("box", 1), ("one", 3), ("other", 4)])

    def test_wishes_between_and_beyond(self):
        system, box = read_system("x + y >= 2"), (((-1, 2), (3, 1)), (ZERO, ((5, 2))))
        for wish, value in (((-9, 1), (-1, 2)), ((-1, 2), (-1, 2)), ((1, 3), (1, 3)), ((3, 1), (3, 1)),
                            ((10 ** 9, 1), (3, 1))):
            for call in (chosen, nearest_solution):
                self.assertEqual(call(system, box, (0, 1), (wish, (9, 1))), (value, (5, 2)))
        for call in (chosen, nearest_solution):
            self.assertEqual(call(system, box, (1, 0), ((-9, 1), ZERO)), ((2, 1), ZERO))
            self.assertEqual(call(wishes=((-9, 1), (2, 1)), order=(1, 0), box=box, system=system), (ZERO, (2, 1)))
            self.assertEqual(call(system, ((None, None),) * 2, (0, 1), ((-7, 3), ZERO)), ((-7, 3), (13, 3)))
            self.assertEqual(call(System(("x",), ()), ((None, None),), (0,), ((-5, 4),)), ((-5, 4),))

    def test_ends_that_touch(self):
        box = (((1, 2), (1, 2)), (None, None), (None, None))
        for call in (chosen, nearest_solution):
            self.assertEqual(call(CLOSED, box, (2, 1, 0), ((9, 1),) * 3), ((1, 2),) * 3)

    def test_by_the_words(self):
        dice = Dice(501)
        seen = {"barred": 0, "stuck": 0, "point": 0}
        for _ in range(500):
            system = any_system(dice, dice.between(1, 4), dice.between(0, 6), 2, 2)
            size = len(system.names)
            box, order = any_box(dice, size, 3, dice.between(3, 10)), any_order(dice, size)
            wishes = tuple(any_fraction(dice, 4) for _ in range(size))
            if barring(system, box):
                seen["barred"] += 1
                self.assertEqual(raised(chosen, system, box, order, wishes), ("Refused", "barred"))
                continue
            left, stuck = box, None
            for at in order:
                self.assertEqual(barring(system, left), ())
                low, high = told(system, left)[at]
                if None not in (low, high) and frac(low) > frac(high):
                    stuck = (left, at, *reasons(system, left)[at])
                    break
                left = placed(left, at, nearest(low, high, wishes[at]))
            found = chosen(system, box, order, wishes)
            if stuck is not None:
                seen["stuck"] += 1
                self.assertIsInstance(found, Stuck)
                self.assertEqual((found.box, found.at, found.one, found.other), stuck)
                self.assertNotIn(None, stuck)
                self.assertEqual(barring(system, found.box), ())
                continue
            seen["point"] += 1
            self.assertEqual(found, tuple(low for low, _ in left))
            self.assertTrue(is_in(found, box) and all(is_kept(row, found) for row in system.rows))
            self.assertEqual(nearest_solution(system, box, order, wishes), found)
            self.assertEqual(chosen(system, box, any_order(dice, size), found), found)
        self.assertGreater(min(seen.values()), 40)

    def test_single_systems_and_gaps(self):
        dice = Dice(502)
        seen = {True: 0, False: 0}
        while min(seen.values()) < 30:
            system = any_system(dice, dice.between(2, 4), dice.between(2, 4), 1, 1)
            size = len(system.names)
            verdict = court(system)
            single = not isinstance(verdict, Gap)
            seen[single] += 1
            wishes = tuple(any_fraction(dice, 3) for _ in range(size))
            if single and seen[single] < 100:
                box = any_box(dice, size, 3, 8)
                if not barring(system, box):
                    self.assertIsInstance(chosen(system, box, any_order(dice, size), wishes), tuple)
            if not single:
                for order in permutations(range(size)):
                    self.assertIsInstance(chosen(system, verdict.box, order, wishes), Stuck)

    def test_six_names(self):
        dice = Dice(503)
        for many in (6, 60):
            system = any_system(dice, 6, many, 3, -20)
            box = any_box(dice, 6, 9, 5)
            wishes = tuple(any_fraction(dice, 9) for _ in range(6))
            order = any_order(dice, 6)
            if point_or_paper(system, box)[0] == "point" and not barring(system, box):
                found = chosen(system, box, order, wishes)
                if isinstance(found, tuple):
                    self.assertEqual(found, nearest_solution(system, box, order, wishes))


class Nearest(unittest.TestCase):

    def test_more_than_single_rows(self):
        box = ((None, (2, 1)), (None, None), ((1, 1), None))
        self.assertEqual(nearest_solution(CHAIN, box, (0, 1, 2), WISHES), ((1, 1),) * 3)
        self.assertEqual(nearest_solution(CHAIN, box, (2, 1, 0), ((9, 1),) * 3), ((2, 1),) * 3)
        self.assertEqual(nearest_solution(CHAIN, box, (1, 2, 0), ((9, 1), (3, 2), ZERO)), ((2, 1), (3, 2), (1, 1)))

    def test_by_the_words(self):
        dice = Dice(504)
        checked = corners = 0
        while checked < 150:
            size = dice.between(1, 4)
            system = any_system(dice, size, dice.between(0, 6), 2, 2)
            box, order = any_box(dice, size, 3, dice.between(3, 10)), any_order(dice, size)
            wishes = tuple(any_fraction(dice, 4) for _ in range(size))
            if point_or_paper(system, box)[0] == "paper":
                self.assertEqual(raised(nearest_solution, system, box, order, wishes), ("Refused", "empty"))
                continue
            checked += 1
            left, at_ends = box, True
            for at in order:
                low, high = exact_ranges(system, left)[at]
                value = nearest(low, high, wishes[at])
                at_ends = at_ends and value in (low, high)
                left = placed(left, at, value)
            found = nearest_solution(system, box, order, wishes)
            self.assertEqual(found, tuple(low for low, _ in left))
            self.assertTrue(is_in(found, box) and all(is_kept(row, found) for row in system.rows))
            if at_ends:
                # What holds the point leaves no direction in which it is between two others.
                corners += 1
                tight = [row[0] for row in system.rows if sum_at(row, found) == row[1]]
                tight += [unit(size, at, 1) for at, side in box_ends(box) if box[at][side] == found[at]]
                self.assertEqual(rank(tight), size)
        self.assertGreater(corners, 15)

    def test_no_solution_is_nearer(self):
        dice = Dice(505)
        for _ in range(60):
            system = any_system(dice, 2, 4, 2, 2)
            box = any_box(dice, 2, 3, 9)
            wishes = tuple(any_fraction(dice, 4) for _ in range(2))
            if point_or_paper(system, box)[0] == "point":
                found = nearest_solution(system, box, (1, 0), wishes)
                gap = frac(found[1]) - frac(wishes[1])
                if gap != 0:
                    other = frac(found[1]) - gap / 10 ** 6
                    part = (box[0], (pair(min(other, frac(wishes[1]))), pair(max(other, frac(wishes[1])))))
                    low, high = part[1]
                    if box[1][0] is not None and frac(box[1][0]) > frac(low):
                        low = box[1][0]
                    if box[1][1] is not None and frac(box[1][1]) < frac(high):
                        high = box[1][1]
                    if frac(low) <= frac(high):
                        self.assertEqual(point_or_paper(system, (box[0], (low, high)))[0], "paper")

    def test_free_boxes(self):
        for system in (CHAIN, CLOSED, System(NAMES, ())):
            size = len(system.names)
            wishes = ((5, 7),) * size
            self.assertEqual(nearest_solution(system, free_box(system), tuple(range(size)), wishes), wishes)


if __name__ == "__main__":
    unittest.main()
