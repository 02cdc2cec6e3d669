"""Points [77], [78] and `bounded_ends` of [79]: passes, runs, and boxes that rest."""

import unittest

from rowalone.bars import narrowed, told, used_ends
from rowalone.boxes import box_ends, free_box, joined_box, within
from rowalone.papers import point_or_paper
from rowalone.passes import bounded_ends, center, passed, passes, rests, run, turned_top
from rowalone.systems import System, system_of
from rowalone.texts import read_system
from tests.helpers import (Anything, Dice, NAMES, any_box, any_row, any_system, frac, is_in, is_kept, odd_values,
                           pair, raised, top_of, wrong_boxes)

ZERO = (0, 1)
HALVING = read_system("x - 2 y >= 0\ny - x >= 0")
UNIT = ((ZERO, (1, 1)), (ZERO, (1, 1)))
CROSSING = read_system("x + y >= 1\ny - x >= 1")


def rests_by_tops(system, box):
    """Whether a box rests, by the sentence about turned tops."""
    for row in system.rows:
        for at, number in enumerate(row[0]):
            if number != 0:
                others = [box[place][side] for place, side in used_ends(row) if place != at]
                turned = turned_top(row, box, at)
                if None not in others and (turned is None or frac(turned) < row[1]):
                    return False
    return True


def any_resting(dice, system):
    """Some box that rests, None if few passes lead to none."""
    box = any_box(dice, len(system.names), 4, dice.between(3, 10))
    last = passes(system, box, 8)[-1]
    return last if last is not None and rests(system, last) else None


class Passes(unittest.TestCase):

    def test_examples(self):
        self.assertEqual(passes(HALVING, UNIT, 2)[2], ((ZERO, (1, 2)), (ZERO, (1, 2))))

    def test_boxes_are_checked_first(self):
        for call, more in ((passed, ()), (passes, (None,)), (run, (None,)), (rests, ()), (bounded_ends, ())):
            for value, at in wrong_boxes(2):
                self.assertEqual(raised(call, HALVING, value, *more), ("InvalidBox", at), value)

    def test_most(self):
        for value in odd_values() + [-1, 101, 10 ** 30, True, False, 1.0, "5", (5,), None]:
            if value not in (0, 1, 7) or isinstance(value, (bool, float)):
                self.assertEqual(raised(passes, HALVING, UNIT, value), ("InvalidNumber", "most"), value)
        self.assertEqual(passes(HALVING, UNIT, 0), (UNIT,))
        self.assertEqual(len(passes(HALVING, UNIT, 100)), 101)
        self.assertEqual(passes(most=100, box=UNIT, system=HALVING)[100][0], (ZERO, (1, 2 ** 50)))
        self.assertEqual(passes(HALVING, UNIT, 1), (UNIT, ((ZERO, (1, 1)), (ZERO, (1, 2)))))
        self.assertEqual(raised(passes, HALVING, UNIT[:1], 101), ("InvalidBox", -1))

    def test_ends_of_passes(self):
        free = ((None, None), (None, None))
        self.assertEqual(passes(HALVING, free, 100), (free,))
        self.assertEqual(passes(System(("x",), ()), ((ZERO, ZERO),), 5), (((ZERO, ZERO),),))
        # A row that bars, and told ends that cross without a row that bars.
        barred = ((None, ZERO), ((1, 1), None))
        self.assertEqual(passes(HALVING, barred, 9), (barred, None))
        self.assertIsNone(passed(HALVING, barred))
        crossed = ((None, None), (None, (1, 2)))
        self.assertEqual(passes(CROSSING, crossed, 9), (crossed, None))
        self.assertEqual(passes(CROSSING, crossed, 0), (crossed,))
        self.assertEqual(passes(CROSSING, crossed, 1), (crossed, None))
        # None is not listed a second time, and a box that rests once only.
        chain = read_system("x - y >= 0\ny - z >= 0")
        box = ((None, None), (None, None), (ZERO, None))
        self.assertEqual(passes(chain, box, 9), (box, ((None, None), (ZERO, None), (ZERO, None)), ((ZERO, None),) * 3))
        self.assertEqual(len(passes(chain, box, 2)), 3)
        self.assertEqual(len(passes(chain, box, 1)), 2)

    def test_by_the_words(self):
        dice = Dice(361)
        seen = {"none": 0, "rest": 0, "most": 0}
        for _ in range(400):
            system = any_system(dice, dice.between(1, 4), dice.between(0, 6), 2, 3)
            box = any_box(dice, len(system.names), 4, dice.between(4, 10))
            ends = told(system, box)
            crossed = any(None not in both and frac(both[0]) > frac(both[1]) for both in ends)
            after = None if crossed else ends
            self.assertEqual(passed(box=box, system=system), after)
            self.assertIs(rests(system=system, box=box), after == box)
            most = dice.between(0, 6)
            items = passes(system, box, most)
            self.assertEqual(items[0], box)
            for one, other in zip(items, items[1:]):
                self.assertNotEqual(one, other)
                self.assertEqual(passed(system, one), other)
            if items[-1] is None:
                seen["none"] += 1
            elif rests(system, items[-1]):
                seen["rest"] += 1
            else:
                seen["most"] += 1
                self.assertEqual(len(items), most + 1)
            self.assertLessEqual(len(items), most + 1)
        self.assertGreater(min(seen.values()), 40)

    def test_solutions_are_in_all_boxes(self):
        dice = Dice(362)
        seen = 0
        for _ in range(200):
            system = any_system(dice, dice.between(1, 4), dice.between(1, 6), 2, 3)
            box = any_box(dice, len(system.names), 4, 6)
            word, found = point_or_paper(system, box)
            if word == "point":
                seen += 1
                items = passes(system, box, 10)
                numbers = tuple(dice.below(len(system.rows)) for _ in range(8))
                for item in items + (run(system, box, numbers),):
                    self.assertTrue(is_in(found, item))
        self.assertGreater(seen, 60)

    def test_sixty_rows(self):
        dice = Dice(363)
        system = any_system(dice, 6, 60, 10 ** 6, 10 ** 6)
        box = any_box(dice, 6, 10 ** 9, 10)
        self.assertLessEqual(len(passes(system, box, 100)), 101)


class Runs(unittest.TestCase):

    def test_values_that_are_no_numbers_of_rows(self):
        wrong = [(2,), (-1,), (True,), (0, False), [0], (0.0,), ("0",), (None,), ((0,),), (0, 1, 2), Anything(),
                 (Anything(),), 0, (10 ** 30,)]
        for value in odd_values() + wrong:
            self.assertEqual(raised(run, HALVING, UNIT, value), ("Refused", "numbers"), value)
        self.assertEqual(raised(run, System(("x",), ()), ((None, None),), (0,)), ("Refused", "numbers"))
        self.assertEqual(run(System(("x",), ()), ((None, None),), ()), ((None, None),))
        # Also if the first row already bars the box.
        self.assertEqual(raised(run, HALVING, ((None, ZERO), ((1, 1), None)), (0, 1, 2)), ("Refused", "numbers"))

    def test_ordinary_inputs(self):
        first = HALVING.rows.index(((1, -2), 0))
        self.assertEqual(run(HALVING, UNIT, ()), UNIT)
        self.assertEqual(run(HALVING, UNIT, (first,)), (UNIT[0], (ZERO, (1, 2))))
        self.assertEqual(run(HALVING, UNIT, (first, first)), (UNIT[0], (ZERO, (1, 2))))
        self.assertEqual(run(numbers=(first, 1 - first, first), box=UNIT, system=HALVING),
                         ((ZERO, (1, 2)), (ZERO, (1, 4))))
        self.assertIsNone(run(HALVING, ((None, ZERO), ((1, 1), None)), (0, 1)))

    def test_by_the_words(self):
        dice = Dice(364)
        seen = 0
        for _ in range(300):
            system = any_system(dice, dice.between(1, 4), dice.between(1, 6), 2, 3)
            box = any_box(dice, len(system.names), 4, 8)
            numbers = tuple(dice.below(len(system.rows)) for _ in range(dice.between(0, 6)))
            left = box
            for number in numbers:
                left = None if left is None else narrowed(system.rows[number], left)
            seen += left is None
            self.assertEqual(run(system, box, numbers), left)
            # A run of m rows contains what m passes leave, and a run of all rows is within one pass.
            after = passes(system, box, len(numbers))[-1]
            self.assertTrue(after is None or (left is not None and within(after, left)))
            order = list(range(len(system.rows))) * 2
            whole = run(system, box, tuple(order.pop(dice.below(len(order))) for _ in order[:]))
            one = passed(system, box)
            self.assertTrue(whole is None or (one is not None and within(whole, one)))
        self.assertGreater(seen, 30)


class Resting(unittest.TestCase):

    def test_turned_tops(self):
        row = ((2, -1, 0), 5)
        box = (((1, 1), (3, 1)), ((-1, 2), (4, 1)), (None, None))
        self.assertEqual([turned_top(row, box, at) for at in range(3)], [(5, 2), (2, 1), (13, 2)])
        self.assertEqual(turned_top(at=1, box=(box[0], (None, (4, 1)), box[2]), row=row), (2, 1))
        for at in (0, 2):
            self.assertIsNone(turned_top(row, (box[0], (None, (4, 1)), box[2]), at))
        self.assertIsNone(turned_top(row, (box[0], ((-1, 2), None), box[2]), 1))
        self.assertEqual(turned_top(((0, 0, 0), 5), ((None, None),) * 3, 1), ZERO)

    def test_turned_tops_by_the_words(self):
        dice = Dice(365)
        for _ in range(300):
            size = dice.between(1, 5)
            row, box, at = any_row(dice, size, 3, 3), any_box(dice, size, 4, 8), dice.below(size)
            ends = list(box)
            ends[at] = (box[at][1], box[at][0])
            top = top_of(row, ends)
            self.assertEqual(turned_top(row, box, at), None if top is None else pair(top))

    def test_turned_tops_tell_whether_a_box_rests(self):
        dice = Dice(366)
        seen = {True: 0, False: 0}
        for _ in range(600):
            system = any_system(dice, dice.between(1, 4), dice.between(0, 3), 2, 4)
            box = any_box(dice, len(system.names), 3, dice.between(2, 10))
            seen[rests(system, box)] += 1
            self.assertIs(rests(system, box), rests_by_tops(system, box))
        self.assertGreater(min(seen.values()), 100)

    def test_rests(self):
        self.assertIs(rests(HALVING, ((ZERO, ZERO), (ZERO, ZERO))), True)
        self.assertIs(rests(HALVING, UNIT), False)
        self.assertIs(rests(HALVING, ((None, ZERO), ((1, 1), None))), False)
        self.assertIs(rests(System(NAMES, ()), ((None, None),) * 6), True)

    def test_joined_boxes_rest(self):
        dice = Dice(367)
        checked = 0
        while checked < 120:
            system = any_system(dice, dice.between(1, 4), dice.between(1, 5), 2, 2)
            one, other = any_resting(dice, system), any_resting(dice, system)
            if one is not None and other is not None:
                checked += 1
                self.assertTrue(rests(system, joined_box(one, other)))

    def test_centers(self):
        self.assertEqual(center((((1, 2), (1, 1)), ((-3, 1), (-3, 1)))), ((3, 4), (-3, 1)))
        for at in range(3):
            for ends in ((None, ZERO), (ZERO, None), (None, None)):
                box = ((ZERO, ZERO),) * at + (ends,) + ((ZERO, ZERO),) * (2 - at)
                self.assertEqual(raised(center, box), ("Refused", "endless"))

    def test_centers_of_resting_boxes_are_solutions(self):
        dice = Dice(368)
        checked = 0
        while checked < 100:
            size = dice.between(1, 4)
            rows = [row for row in (any_row(dice, size, 3, 3) for _ in range(dice.between(1, 8)))
                    if sum(number != 0 for number in row[0]) <= 2]
            system = system_of(NAMES[:size], tuple(rows))
            box = passes(system, any_box(dice, size, 6, 10), 8)[-1]
            if box is not None and rests(system, box) and len(box_ends(box)) == 2 * size:
                checked += 1
                self.assertTrue(all(is_kept(row, center(box=box)) for row in system.rows))

    def test_resting_boxes_may_be_empty_with_three_unknowns_in_a_row(self):
        system = read_system("x + y + z >= 1\n-x - y + z >= 1\nx - y - z >= 1\n-x + y - z >= 1")
        box = (((-1, 1), (1, 1)),) * 3
        self.assertIs(rests(system, box), True)
        self.assertEqual(point_or_paper(system, box)[0], "paper")


class Bounded(unittest.TestCase):

    def test_ordinary_inputs(self):
        chain = read_system("x - y >= 0\ny - z >= 0")
        self.assertEqual(bounded_ends(chain, free_box(chain)), ())
        self.assertEqual(bounded_ends(chain, ((None, None), (None, None), (ZERO, None))), ((0, 0), (1, 0), (2, 0)))
        self.assertEqual(bounded_ends(chain, ((None, None), (ZERO, None), (None, None))), ((0, 0), (1, 0)))
        self.assertEqual(bounded_ends(chain, ((None, (1, 1)), (None, None), (None, None))), ((0, 1), (1, 1), (2, 1)))
        self.assertEqual(bounded_ends(box=((None, None),) * 2, system=read_system("x >= 1\nx + y <= 3")),
                         ((0, 0), (1, 1)))
        self.assertEqual(bounded_ends(System(("x",), ()), ((ZERO, (1, 1)),)), ((0, 0), (0, 1)))

    def test_rows_that_bar_tell_ends_too(self):
        system = read_system("x + y >= 5\nz - x >= 0")
        box = ((ZERO, (1, 1)), (ZERO, (1, 1)), (None, None))
        self.assertEqual(bounded_ends(system, box), ((0, 0), (0, 1), (1, 0), (1, 1), (2, 0)))

    def test_the_ends_that_passes_leave(self):
        dice = Dice(369)
        checked, more = 0, 0
        while checked < 250:
            size = dice.between(1, 5)
            system = any_system(dice, size, dice.between(0, 8), 2, 6)
            box = any_box(dice, size, 5, dice.between(0, 6))
            items = passes(system, box, 2 * size)
            if items[-1] is not None:
                checked += 1
                self.assertEqual(bounded_ends(system, box), box_ends(items[-1]))
                more += len(items) > 2 and len(box_ends(items[-1])) > len(box_ends(items[1]))
        self.assertGreater(more, 5)

    def test_by_the_words(self):
        dice = Dice(370)
        for _ in range(200):
            size = dice.between(1, 5)
            system = any_system(dice, size, dice.between(0, 8), 2, 3)
            box = any_box(dice, size, 3, dice.between(0, 6))
            ends = set(box_ends(box))
            for _ in range(2 * size):
                for numbers, _ in system.rows:
                    for at, number in enumerate(numbers):
                        uses = {(place, int(one > 0)) for place, one in enumerate(numbers) if one and place != at}
                        if number != 0 and uses <= ends:
                            ends.add((at, int(number < 0)))
            self.assertEqual(bounded_ends(system, box), tuple(sorted(ends)))


if __name__ == "__main__":
    unittest.main()
