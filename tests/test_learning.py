"""Points [89] and [90]: what empty boxes teach, and searches that learn."""

import unittest
from itertools import permutations

from rowalone.bars import barring, bars_box, used_ends
from rowalone.blame import all_blames
from rowalone.boxes import free_box, only_ends
from rowalone.chosen import Stuck, chosen, nearest_solution
from rowalone.closing import least_single
from rowalone.court import Gap, court, is_single
from rowalone.learning import is_outer, learned_row, lesson, taught, unlearned
from rowalone.papers import point_or_paper
from rowalone.systems import System, least_form, system_of, thinned
from rowalone.texts import read_system
from tests.helpers import (Anything, Dice, NAMES, any_box, any_fraction, any_row, any_system, loose_system, odd_values,
                           raised, wrong_boxes)

ZERO = (0, 1)
CHAIN = System(("x", "y", "z"), (((0, 1, -1), 0), ((1, -1, 0), 0)))
BARRED = read_system("x >= 1\nx <= 0\ny >= 0")
EMPTY = ((None, ZERO), (None, None), ((1, 1), None))
ROAD = System(NAMES, tuple(sorted(((0,) * at + (1, -1) + (0,) * (4 - at), 0) for at in range(5))))


def has_solution(system):
    return point_or_paper(system, free_box(system))[0] == "point"


def any_solvable(dice, most=3, limit=2):
    while True:
        system = any_system(dice, dice.between(2, most), dice.between(1, 5), limit, 2)
        if has_solution(system):
            return system


def any_gap(dice):
    """A system with a solution, and an empty box that no row bars."""
    while True:
        system = any_solvable(dice, 4, dice.pick((1, 2)))
        verdict = court(system)
        if isinstance(verdict, Gap):
            box = tuple((dice.pick((low, low, (-9, 1))), dice.pick((high, high, (9, 1))))
                        for low, high in verdict.box)
            if raised(barring, system, box) is None and not barring(system, box):
                return system, box if point_or_paper(system, box)[0] == "paper" else verdict.box


class Errors(unittest.TestCase):

    def test_systems_without_a_solution(self):
        for call, more in ((is_outer, (None,)), (is_outer, (((1, 0), 1),)), (unlearned, ()),
                           (learned_row, (free_box(BARRED),)), (learned_row, (((ZERO, ZERO), (None, None)),)),
                           (lesson, (None,)), (lesson, (((1, 0), 1),)), (taught, (free_box(BARRED), (0, 1), (ZERO,) * 2)),
                           (taught, (((ZERO, ZERO), (None, None)), (0, 1), (ZERO,) * 2))):
            self.assertEqual(raised(call, BARRED, *more), ("Refused", "none"))

    def test_boxes_are_checked_first(self):
        for system in (CHAIN, System(("x", "y", "z"), (((-1, 0, 0), 0), ((1, 0, 0), 1)))):
            for value, at in wrong_boxes(3):
                self.assertEqual(raised(learned_row, system, value), ("InvalidBox", at), value)
                self.assertEqual(raised(taught, system, value, (0, 1, 2), (ZERO,) * 3), ("InvalidBox", at), value)

    def test_wide(self):
        wide = loose_system(Dice(641), 4, 60, 10 ** 3, 10 ** 4)
        self.assertEqual(raised(unlearned, wide), ("Refused", "wide"))
        self.assertEqual(raised(lesson, wide, None), ("Refused", "wide"))
        self.assertEqual(raised(lesson, wide, wide.rows[0]), ("Refused", "wide"))
        # The others need not know all rows.
        self.assertIs(is_outer(wide, None), False)
        self.assertIsNone(raised(learned_row, wide, free_box(wide)))
        self.assertIsNone(raised(taught, wide, free_box(wide), (0, 1, 2, 3), (ZERO,) * 4))

    def test_sixty_rows_taught(self):
        rows = [((1, 1, number), -10 ** 6) for number in range(58)]
        system = system_of(("x", "y", "z"), CHAIN.rows + tuple(rows))
        self.assertEqual(len(system.rows), 60)
        self.assertEqual(raised(taught, system, EMPTY, (0, 1, 2), (ZERO,) * 3), ("Refused", "wide"))
        self.assertEqual(learned_row(system, EMPTY), ((1, 0, -1), 0))
        less = System(system.names, tuple(row for row in system.rows if row != rows[7]))
        self.assertEqual(taught(less, EMPTY, (0, 1, 2), (ZERO,) * 3), ((((1, 0, -1), 0),), None))
        # Nothing is added if a row bars the box, or nothing is stuck.
        self.assertEqual(taught(system, ((None, ZERO), ((1, 1), None), (None, None)), (0, 1, 2), (ZERO,) * 3), ((), None))
        self.assertEqual(taught(system, free_box(system), (0, 1, 2), (ZERO,) * 3), ((), (ZERO,) * 3))

    def test_rows_that_are_not_to_be_learned(self):
        right = ((1, 0, -1), 0)
        self.assertIsNone(raised(lesson, CHAIN, right))
        for value in odd_values() + [((True, 0, -1), 0), ((1, False, -1), 0), ((1, 0, -1), False), ((1.0, 0, -1), 0),
                                     [(1, 0, -1), 0], ([1, 0, -1], 0), ((2, 0, -2), 0), ((1, 0, -1), -1), (right,),
                                     ((0, 0, 0), 0), ((1, 0), 0), CHAIN.rows[0], CHAIN.rows[1], Anything()]:
            self.assertEqual(raised(lesson, CHAIN, value), ("Refused", "row"), value)
            self.assertIs(is_outer(CHAIN, value), value in CHAIN.rows)
        self.assertIs(is_outer(row=right, system=CHAIN), True)


class Rows(unittest.TestCase):

    def test_examples(self):
        self.assertEqual((unlearned(CHAIN), learned_row(CHAIN, EMPTY)), ((((1, 0, -1), 0),), ((1, 0, -1), 0)))
        self.assertEqual(taught(CHAIN, ((None, ZERO), (None, None), (None, None)), (0, 2, 1), (ZERO, (1, 1), (2, 1))),
                         ((((1, 0, -1), 0),), (ZERO, ZERO, ZERO)))

    def test_outer_rows(self):
        dice = Dice(642)
        seen = {True: 0, False: 0}
        for _ in range(150):
            system = any_solvable(dice)
            least = least_single(system)
            self.assertEqual(unlearned(system=system), tuple(row for row in least.rows if row not in system.rows))
            rows = least.rows + system.rows + tuple(any_row(dice, len(system.names), 2, 2) for _ in range(4))
            rows += tuple((numbers, bound - 1) for numbers, bound in least.rows)
            for row in rows:
                seen[row in least.rows] += 1
                self.assertIs(is_outer(system, row), row in least.rows)
        self.assertGreater(min(seen.values()), 200)

    def test_rows_of_flat_solutions(self):
        # Solutions that do not differ in all directions: equations, a single point, a line.
        for text in ("x + y = 2\nx - y = 0", "x + y + z = 1", "x = 1\ny >= 0", "x - y = 0\ny - z >= 1", "2 x + 3 y = 1"):
            system = read_system(text, ("t",))
            least = least_single(system)
            for row in least.rows + system.rows:
                self.assertIs(is_outer(system, row), row in least.rows)

    def test_sums_are_not_outer(self):
        system = read_system("x >= 0\ny >= 0\nz >= 0")
        for row in (((1, 1, 0), 0), ((1, 2, 3), 0), ((1, 0, 0), -1), ((-1, 0, 0), 0), ((1, -1, 0), 0), ((0, 0, 1), 1)):
            self.assertIs(is_outer(system, row), False)
        for row in system.rows:
            self.assertIs(is_outer(system, row), True)

    def test_learned_rows(self):
        dice = Dice(643)
        many = 0
        for _ in range(150):
            system, box = any_gap(dice)
            row = learned_row(box=box, system=system)
            self.assertIn(row, least_single(system).rows)
            self.assertNotIn(row, system.rows)
            self.assertTrue(bars_box(row, box))
            self.assertIn(used_ends(row), all_blames(system, box))
            many += len(used_ends(row)) > 1
        self.assertGreater(many, 40)

    def test_nothing_to_learn(self):
        dice = Dice(644)
        seen = {"point": 0, "barred": 0}
        for _ in range(200):
            system = any_solvable(dice)
            box = any_box(dice, len(system.names), 3, 8)
            if barring(system, box):
                seen["barred"] += 1
                self.assertIsNone(learned_row(system, box))
            elif point_or_paper(system, box)[0] == "point":
                seen["point"] += 1
                self.assertIsNone(learned_row(system, box))
        self.assertGreater(min(seen.values()), 20)

    def test_what_was_learned_changes_nothing(self):
        dice = Dice(645)
        for _ in range(30):
            system, box = any_gap(dice)
            least = least_single(system)
            left = list(unlearned(system))
            known = system
            while left:
                row = dice.pick(left)
                lost = lesson(row=row, system=known)
                self.assertTrue(bars_box(row, lost))
                for other in known.rows + least.rows:
                    self.assertEqual(bars_box(other, lost), other == row)
                self.assertEqual(learned_row(known, lost), row)
                known = System(known.names, tuple(sorted(known.rows + (row,))))
                left.remove(row)
                self.assertEqual(unlearned(known), tuple(sorted(left)))
                self.assertEqual(least_single(known), least)
            self.assertTrue(is_single(known))

    def test_many_rows_with_the_signs_of_a_lesson(self):
        # Four lows and four highs of e teach 16 rows; all others are sums of two of these, with less.
        sizes = ((1, 5), (2, 3), (4, 2), (7, 1))
        taught_rows = [least_form(one + other + (0,), 10) for one in sizes for other in sizes]
        sums = [(tuple(map(sum, zip(row[0], other[0]))), row[1] + other[1] - 1)
                for row in taught_rows for other in taught_rows if row < other]
        rows = [(one + (0, 0, 1), 10) for one in sizes] + [((0, 0) + one + (-1,), 0) for one in sizes]
        sums = list(thinned(sums))[:46]
        for many, error in ((45, None), (46, ("Refused", "wide"))):
            system = system_of(NAMES[:5], tuple(rows + sums[:many]))
            self.assertEqual(len(system.rows), 8 + many)
            self.assertEqual(unlearned(system), tuple(sorted(taught_rows)))
            for row in taught_rows[:3]:
                self.assertEqual(raised(lesson, system, row), error)
            self.assertEqual(raised(lesson, system, rows[0]), ("Refused", "row"))

    def test_six_names(self):
        self.assertEqual(len(unlearned(ROAD)), 10)
        box = ((None, ZERO),) + ((None, None),) * 4 + (((1, 1), None),)
        self.assertEqual(learned_row(ROAD, box), ((1, 0, 0, 0, 0, -1), 0))
        for row in unlearned(ROAD):
            self.assertEqual(barring(least_single(ROAD), lesson(ROAD, row)), (least_single(ROAD).rows.index(row),))
        dice = Dice(646)
        system = loose_system(dice, 6, 60, 10 ** 6, 10 ** 6)
        box = ((((5, 1), (5, 1)),) * 6)
        row = learned_row(system, box)
        if row is not None:
            self.assertTrue(bars_box(row, box) and is_outer(system, row))


class Searches(unittest.TestCase):

    def test_by_the_words(self):
        dice = Dice(647)
        seen = {"none": 0, "plain": 0, "learned": 0, "several": 0}
        for _ in range(300):
            system, box = any_gap(dice) if dice.chance(1, 2) else (any_solvable(dice, 4), None)
            size = len(system.names)
            if box is None or dice.chance(1, 3):
                box = any_box(dice, size, 3, dice.between(3, 9))
            elif dice.chance(1, 2):
                box = only_ends(box, tuple((at, side) for at in range(size) for side in (0, 1) if dice.chance(2, 3)))
            wishes = tuple(any_fraction(dice, 4) for _ in range(size))
            order = dice.pick(list(permutations(range(size))))
            rows, point = taught(system, box, order, wishes)
            least = least_single(system)
            known = system
            for row in rows:
                # Each row was learned where a search with the rows before was stuck.
                self.assertEqual(barring(known, box), ())
                found = chosen(known, box, order, wishes)
                self.assertIsInstance(found, Stuck)
                self.assertTrue(bars_box(row, found.box))
                self.assertIn(used_ends(row), all_blames(system, found.box))
                self.assertIn(row, least.rows)
                self.assertNotIn(row, known.rows)
                known = System(known.names, tuple(sorted(known.rows + (row,))))
            if point_or_paper(system, box)[0] == "paper":
                seen["none"] += 1
                self.assertIsNone(point)
                self.assertNotEqual(barring(known, box), ())
            else:
                self.assertEqual(point, nearest_solution(system, box, order, wishes))
                self.assertEqual(chosen(known, box, order, wishes), point)
                seen["learned" if rows else "plain"] += 1
            seen["several"] += len(rows) > 1
        self.assertGreater(min(seen.values()), 5, seen)

    def test_searches_that_keep_what_they_add(self):
        dice = Dice(648)
        for _ in range(15):
            system, _ = any_gap(dice)
            size, known, added = len(system.names), system, 0
            for _ in range(12):
                box = any_box(dice, size, 3, 6)
                rows, _ = taught(known, box, tuple(range(size)), tuple(any_fraction(dice, 4) for _ in range(size)))
                added += len(rows)
                known = System(known.names, tuple(sorted(known.rows + rows)))
            self.assertLessEqual(added, len(unlearned(system)))
            self.assertEqual(len(unlearned(known)), len(unlearned(system)) - added)

    def test_parameters(self):
        self.assertEqual(taught(wishes=(ZERO,) * 3, order=(2, 1, 0), box=free_box(CHAIN), system=CHAIN), ((), (ZERO,) * 3))
        self.assertEqual(taught(CHAIN, ((None, ZERO), ((1, 1), None), (None, None)), (0, 1, 2), (ZERO,) * 3), ((), None))


if __name__ == "__main__":
    unittest.main()
