"""Points [2], [12] and [13]: boxes, points, ends and halves."""

import unittest

from rowalone.boxes import (box_ends, check_box, check_point, common_box, free_box, halves, in_box, joined_box,
                            only_ends, placed, point_box, within)
from rowalone.systems import System
from tests.helpers import (Anything, Dice, NAMES, any_box, any_fraction, changed, frac, is_in, no_fractions,
                           odd_values, points_on_grid, raised)

XY = System(("x", "y"), ())
GOOD = ((None, (1, 2)), ((0, 1), None))
GRID = tuple((top, 2) if top % 2 else (top // 2, 1) for top in range(-5, 6))


class Checking(unittest.TestCase):

    def test_boxes(self):
        for box in (GOOD, ((None, None), (None, None)), (((1, 2), (1, 2)), ((-3, 1), (10 ** 9, 7)))):
            self.assertIsNone(check_box(XY, box))
        self.assertIsNone(check_box(System(("x",), ()), (((0, 1), (0, 1)),)))
        self.assertIsNone(check_box(System(NAMES, ()), ((None, (1, 3)),) * 6))
        self.assertIsNone(check_box(system=XY, value=GOOD))

    def test_no_tuples_with_an_item_for_each_name(self):
        for value in odd_values():
            if not isinstance(value, tuple) or len(value) != 2:
                self.assertEqual(raised(check_box, XY, value), ("InvalidBox", -1), value)
        for value in ((), GOOD[:1], GOOD + GOOD[:1], list(GOOD), {0: GOOD[0], 1: GOOD[1]}, None, (1, 2, 3)):
            self.assertEqual(raised(check_box, XY, value), ("InvalidBox", -1), value)

    def test_items_that_are_no_ends(self):
        wrong = [[None, None], (None,), (None, None, None), (None, [0, 1]), ((1, 2), (1, 3)), ((0, 1), (-1, 1)), (1, 2),
                 (0, None), (None, 0), ((1, 1), 1), (True, None), (None, False), ("", None), "ab", Anything()]
        wrong += [(value, None) for value in no_fractions()] + [(None, value) for value in no_fractions()]
        for item in wrong + odd_values():
            for at in (0, 1):
                value = changed(GOOD, at, item)
                self.assertEqual(raised(check_box, XY, value), ("InvalidBox", at), item)

    def test_the_first_wrong_item_is_named(self):
        self.assertEqual(raised(check_box, XY, (5, 5)), ("InvalidBox", 0))
        self.assertEqual(raised(check_box, XY, (5, 5, 5)), ("InvalidBox", -1))
        self.assertEqual(raised(check_box, System(NAMES, ()), GOOD * 2 + (None, 5)), ("InvalidBox", 4))

    def test_ends_that_touch(self):
        self.assertIsNone(check_box(XY, (((2, 3), (2, 3)), ((0, 1), (1, 10 ** 9)))))
        self.assertEqual(raised(check_box, XY, (((2, 3), (2, 3)), ((1, 10 ** 9), (0, 1)))), ("InvalidBox", 1))

    def test_points(self):
        self.assertIsNone(check_point(XY, ((0, 1), (-7, 2))))
        self.assertIsNone(check_point(system=XY, value=((0, 1), (10 ** 9, 10 ** 9 - 1))))

    def test_no_points(self):
        for value in odd_values():
            if not isinstance(value, tuple) or len(value) != 2:
                self.assertEqual(raised(check_point, XY, value), ("InvalidPoint", -1), value)
        for value in ((), ((0, 1),), ((0, 1),) * 3, [(0, 1), (0, 1)]):
            self.assertEqual(raised(check_point, XY, value), ("InvalidPoint", -1), value)
        for item in odd_values() + no_fractions():
            for at in (0, 1):
                value = changed(((0, 1), (1, 2)), at, item)
                self.assertEqual(raised(check_point, XY, value), ("InvalidPoint", at), item)
        self.assertEqual(raised(check_point, XY, (None, None)), ("InvalidPoint", 0))


class Boxes(unittest.TestCase):

    def test_free_box_and_point_box(self):
        self.assertEqual(free_box(XY), ((None, None), (None, None)))
        self.assertEqual(free_box(System(("x",), ())), ((None, None),))
        self.assertEqual(free_box(System(NAMES, ())), ((None, None),) * 6)
        self.assertEqual(point_box(((1, 2), (0, 1))), (((1, 2), (1, 2)), ((0, 1), (0, 1))))

    def test_in_box(self):
        self.assertIs(in_box(((1, 2), (0, 1)), GOOD), True)
        self.assertIs(in_box(((2, 3), (0, 1)), GOOD), False)
        self.assertIs(in_box(((0, 1), (-1, 10 ** 9)), GOOD), False)
        self.assertIs(in_box(point=((0, 1), (9, 1)), box=GOOD), True)

    def test_within(self):
        self.assertIs(within(GOOD, GOOD), True)
        self.assertIs(within(((None, (1, 3)), ((0, 1), (1, 1))), GOOD), True)
        self.assertIs(within(GOOD, ((None, (1, 3)), ((0, 1), (1, 1)))), False)
        self.assertIs(within(((None, None), ((0, 1), None)), GOOD), False)
        self.assertIs(within(GOOD, free_box(XY)), True)
        self.assertIs(within(free_box(XY), GOOD), False)

    def test_against_all_points_of_a_grid(self):
        dice = Dice(21)
        points = points_on_grid(2, GRID)
        for _ in range(150):
            box, other = [tuple((low, high) for low, high in grid_box(dice)) for _ in range(2)]
            inside = [point for point in points if is_in(point, box)]
            others = [point for point in points if is_in(point, other)]
            self.assertEqual([point for point in points if in_box(point, box)], inside)
            common = common_box(box, other)
            both = [point for point in inside if point in others]
            self.assertEqual(both, [] if common is None else [point for point in points if is_in(point, common)])
            if common is not None:
                self.assertIsNone(check_box(XY, common))
                self.assertTrue(within(common, box) and within(common, other))
            joined = joined_box(box, other)
            self.assertIsNone(check_box(XY, joined))
            self.assertTrue(within(box, joined) and within(other, joined))
            for at, side in box_ends(joined):
                self.assertIn(joined[at][side], (box[at][side], other[at][side]))
                self.assertNotIn(None, (box[at][side], other[at][side]))

    def test_within_is_a_matter_of_ends(self):
        dice = Dice(22)
        for _ in range(300):
            box, other = any_box(dice, 2, 3), any_box(dice, 2, 3)
            expected = True
            for (low, high), (outer_low, outer_high) in zip(box, other):
                if outer_low is not None and (low is None or frac(low) < frac(outer_low)):
                    expected = False
                if outer_high is not None and (high is None or frac(high) > frac(outer_high)):
                    expected = False
            self.assertIs(within(box, other), expected)
            self.assertEqual(common_box(box, other) == box, expected)
            self.assertEqual(joined_box(box, other) == other, expected)

    def test_boxes_that_touch(self):
        one, other = (((0, 1), (1, 1)),), (((1, 1), (2, 1)),)
        self.assertEqual(common_box(one, other), (((1, 1), (1, 1)),))
        self.assertEqual(joined_box(one, other), (((0, 1), (2, 1)),))
        self.assertIsNone(common_box(one, (((1000001, 1000000), None),)))
        self.assertEqual(joined_box(one, ((None, (1, 2)),)), ((None, (1, 1)),))
        self.assertEqual(common_box(box=((None, None),), other=one), one)


def grid_box(dice):
    """A box with ends on the grid."""
    box = []
    for _ in range(2):
        low = dice.below(11) if dice.chance(6, 10) else None
        high = dice.below(11) if dice.chance(6, 10) else None
        if low is not None and high is not None:
            low, high = min(low, high), max(low, high)
        box.append((None if low is None else GRID[low], None if high is None else GRID[high]))
    return tuple(box)


class Ends(unittest.TestCase):

    def test_box_ends(self):
        self.assertEqual(box_ends(GOOD), ((0, 1), (1, 0)))
        self.assertEqual(box_ends(free_box(XY)), ())
        self.assertEqual(box_ends((((0, 1), (0, 1)),) * 2), ((0, 0), (0, 1), (1, 0), (1, 1)))

    def test_only_ends(self):
        box = (((0, 1), (1, 1)), ((0, 1), None))
        self.assertEqual(only_ends(box, ((0, 1), (1, 0))), GOOD[:0] + ((None, (1, 1)), ((0, 1), None)))
        self.assertEqual(only_ends(box, ()), free_box(XY))
        self.assertEqual(only_ends(box, ((0, 0), (1, 1), (7, 0))), (((0, 1), None), (None, None)))
        self.assertEqual(only_ends(box, box_ends(box)), box)
        self.assertEqual(only_ends(ends=((1, 0),), box=box), ((None, None), ((0, 1), None)))

    def test_only_ends_of_any_lot(self):
        dice = Dice(23)
        for _ in range(100):
            box = any_box(dice, 3, 5)
            ends = tuple((at, side) for at in range(4) for side in (0, 1) if dice.chance(1, 2))
            kept = only_ends(box, ends)
            self.assertEqual(box_ends(kept), tuple(end for end in box_ends(box) if end in ends))
            for at, side in box_ends(kept):
                self.assertEqual(kept[at][side], box[at][side])

    def test_placed(self):
        self.assertEqual(placed(GOOD, 0, (5, 1)), (((5, 1), (5, 1)), GOOD[1]))
        self.assertEqual(placed(GOOD, 1, (-5, 2)), (GOOD[0], ((-5, 2), (-5, 2))))
        self.assertEqual(placed(value=(0, 1), at=0, box=((None, None),)), (((0, 1), (0, 1)),))

    def test_halves(self):
        box = (((0, 1), (2, 1)), (None, None))
        self.assertEqual(halves(box, 0, (1, 1)), ((((0, 1), (1, 1)), box[1]), (((1, 1), (2, 1)), box[1])))
        self.assertEqual(halves(box, 1, (1, 1)), ((box[0], (None, (1, 1))), (box[0], ((1, 1), None))))
        self.assertEqual(halves(box, 0, (0, 1)), ((((0, 1), (0, 1)), box[1]), box))
        self.assertEqual(halves(box, 0, (2, 1)), (box, (((2, 1), (2, 1)), box[1])))
        self.assertEqual(halves(box, 0, (-1, 2)), (None, box))
        self.assertEqual(halves(value=(5, 2), at=0, box=box), (box, None))

    def test_halves_against_points(self):
        dice = Dice(24)
        points = points_on_grid(2, GRID)
        for _ in range(100):
            box, at, value = grid_box(dice), dice.below(2), any_fraction(dice, 3)
            lower, upper = halves(box, at, value)
            for point in points:
                self.assertEqual(lower is not None and is_in(point, lower),
                                 is_in(point, box) and frac(point[at]) <= frac(value))
                self.assertEqual(upper is not None and is_in(point, upper),
                                 is_in(point, box) and frac(point[at]) >= frac(value))
            low, high = box[at]
            self.assertEqual(lower is None, low is not None and frac(low) > frac(value))
            self.assertEqual(upper is None, high is not None and frac(high) < frac(value))


if __name__ == "__main__":
    unittest.main()
