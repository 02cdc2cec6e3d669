"""Points [70] to [73]: ends to blame, loosenings, rows to blame, and ends that force."""

import unittest
from itertools import combinations

from rowalone.bars import used_ends
from rowalone.blame import (all_blames, all_forcing, all_loosenings, is_forced, is_to_blame, least_hits, row_blames,
                            row_forcing, shrunk_blame)
from rowalone.boxes import box_ends, common_box, free_box, only_ends
from rowalone.court import Gap, court
from rowalone.papers import point_or_paper
from rowalone.systems import System, system_of
from rowalone.texts import read_system
from tests.helpers import (Dice, NAMES, any_box, any_fraction, any_row, any_system, changed, frac, is_barred,
                           pair, raised, top_of, wrong_boxes)

ZERO = (0, 1)
CHAIN = System(("x", "y", "z"), (((0, 1, -1), 0), ((1, -1, 0), 0)))
CLOSED = System(("x", "y", "z"), CHAIN.rows + (((1, 0, -1), 0),))
BOX = ((None, (0, 1)), ((-5, 1), (5, 1)), ((1, 1), None))
STRANGE = ((7, 1), (9, 0), (10 ** 9, 1))


def is_empty(system, box):
    return point_or_paper(system, box)[0] == "paper"


def parts_of(ends):
    return [lot for many in range(len(ends) + 1) for lot in combinations(ends, many)]


def least_among(ends, right):
    """The least lots of some ends with a property that greater lots have as well."""
    found = []
    for lot in parts_of(ends):
        if not any(set(one) <= set(lot) for one in found) and right(lot):
            found.append(lot)
    return tuple(sorted(found))


def least_of_lots(lots):
    return tuple(sorted({lot for lot in lots if not any(set(one) < set(lot) for one in lots)}))


def beyond(box, end, value):
    """The box of points a little beyond an end with a value, None if there are none.

    The least values over the small boxes of these tests are fractions with small bottoms.
    """
    at, side = end
    little = frac(value) + (1 if side else -1) * frac((1, 10 ** 9))
    other = [(None, None)] * len(box)
    other[at] = (pair(little), None) if side else (None, pair(little))
    return common_box(box, tuple(other))


def forces(system, box, ends, end, value):
    """By the words, but for the little that `beyond` leaves out."""
    further = beyond(only_ends(box, ends), end, value)
    return further is None or is_empty(system, further)


def any_case(dice):
    """A system and a box, which often is empty although the system has solutions."""
    size = dice.between(1, 3)
    rows = tuple(any_row(dice, size, dice.pick((1, 2, 3)), 2) for _ in range(dice.between(0, 6)))
    rows = tuple((numbers, bound + dice.pick((0, 2))) for numbers, bound in rows)
    return system_of(NAMES[:size], rows), any_box(dice, size, 2, dice.between(6, 10))


class ToBlame(unittest.TestCase):

    def test_examples(self):
        self.assertEqual((all_blames(CHAIN, BOX), all_loosenings(CHAIN, BOX), row_blames(CHAIN, BOX)),
                         ((((0, 1), (2, 0)),), (((0, 1),), ((2, 0),)), ()))

    def test_boxes_are_checked_first(self):
        calls = ((is_to_blame, ((),)), (shrunk_blame, ((),)), (all_blames, ()), (all_loosenings, ()),
                 (row_blames, ()), (is_forced, ((), (0, 0), ZERO)), (all_forcing, ((0, 0), ZERO)),
                 (row_forcing, ((0, 0), ZERO)))
        for call, more in calls:
            for value, at in wrong_boxes(3):
                self.assertEqual(raised(call, CHAIN, value, *more), ("InvalidBox", at), value)

    def test_lots(self):
        lot = ((0, 1), (2, 0))
        self.assertIs(is_to_blame(CHAIN, BOX, lot), True)
        self.assertIs(is_to_blame(ends=lot + STRANGE, box=BOX, system=CHAIN), True)
        self.assertIs(is_to_blame(CHAIN, BOX, box_ends(BOX)), True)
        for lot in ((), ((0, 1),), ((1, 0), (1, 1), (2, 0)), ((0, 0), (2, 0)), STRANGE, ((0, 1), (1, 0), (1, 1))):
            self.assertIs(is_to_blame(CHAIN, BOX, lot), False)
        self.assertIs(is_to_blame(CHAIN, ((None, ZERO), (None, None), (ZERO, None)), ((0, 1), (2, 0))), False)

    def test_shrunk(self):
        self.assertEqual(shrunk_blame(CHAIN, BOX, box_ends(BOX) + STRANGE), ((0, 1), (2, 0)))
        self.assertIsNone(shrunk_blame(CHAIN, BOX, ((0, 1), (1, 0), (1, 1)) + STRANGE))
        self.assertIsNone(shrunk_blame(ends=(), box=BOX, system=CHAIN))
        self.assertIsNone(shrunk_blame(System(("x",), ()), ((ZERO, ZERO),), ((0, 0), (0, 1))))

    def test_shrunk_by_other_rows(self):
        # The first row is broken by three lows, but the second one by two of them.
        system = read_system("-x - y - z >= 1\n-x - y >= 1")
        box = ((ZERO, None),) * 3
        self.assertEqual(shrunk_blame(system, box, box_ends(box)), ((0, 0), (1, 0)))
        system = read_system("-x - y - z >= 1\n-x - z >= 1\n-y >= 4")
        box = ((ZERO, None), ((-3, 1), None), (ZERO, None))
        self.assertEqual(shrunk_blame(system, box, box_ends(box)[:2]), ((1, 0),))
        self.assertEqual(shrunk_blame(system, box, ((0, 0), (2, 0))), ((0, 0), (2, 0)))

    def test_systems_without_a_solution(self):
        system = read_system("x + y >= 1\nx + y <= 0")
        for box in (free_box(system), ((ZERO, ZERO), (None, (1, 1)))):
            self.assertIs(is_to_blame(system, box, ()), True)
            self.assertEqual(shrunk_blame(system, box, box_ends(box)), ())
            self.assertEqual(all_blames(system, box), ((),))
            self.assertEqual(all_loosenings(system, box), ())
            self.assertEqual(all_forcing(system, box, (1, 0), (3, 1)), ((),))
            self.assertIs(is_forced(system, box, (), (1, 0), (3, 1)), True)

    def test_boxes_with_solutions(self):
        for system in (CHAIN, System(("x", "y", "z"), ())):
            box = ((None, (1, 1)), ((-5, 1), (5, 1)), ((1, 1), None))
            self.assertEqual((all_blames(system, box), all_loosenings(system, box)), ((), ((),)))
            self.assertEqual(row_blames(system, free_box(system)), ())

    def test_against_all_lots(self):
        dice = Dice(321)
        seen = 0
        for _ in range(500):
            system, box = any_case(dice)
            ends = box_ends(box)
            blames = least_among(ends, lambda lot: is_empty(system, only_ends(box, lot)))
            seen += len(blames) > 1
            self.assertEqual(all_blames(system, box), blames)
            loosenings = least_among(ends, lambda lot: not is_empty(
                system, only_ends(box, tuple(end for end in ends if end not in lot))))
            self.assertEqual(all_loosenings(box=box, system=system), loosenings)
            self.assertEqual(least_hits(blames), loosenings)
            self.assertEqual(least_hits(loosenings), blames)
            for lot in blames:
                self.assertEqual(len({at for at, _ in lot}), len(lot))
            lot = tuple(end for end in ends if dice.chance(4, 5))
            self.assertIs(is_to_blame(system, box, lot), is_empty(system, only_ends(box, lot)))
            shrunk = shrunk_blame(system, box, lot + STRANGE)
            self.assertEqual(shrunk is None, not is_empty(system, only_ends(box, lot)))
            self.assertTrue(shrunk is None or (shrunk in blames and set(shrunk) <= set(lot)))
        self.assertGreater(seen, 30)

    def test_six_names(self):
        dice = Dice(322)
        many = 0
        for _ in range(15):
            system = any_system(dice, 6, dice.pick((6, 60)), dice.pick((2, 10 ** 6)), 3)
            box = any_box(dice, 6, 2, 10)
            blames = all_blames(system, box)
            many = max(many, len(blames))
            self.assertEqual(blames, tuple(sorted(blames)))
            for lot in blames[:3]:
                self.assertTrue(is_to_blame(system, box, lot))
                for end in lot:
                    self.assertFalse(is_to_blame(system, box, tuple(one for one in lot if one != end)))
            self.assertEqual(least_hits(all_loosenings(system, box)), blames)
        self.assertGreater(many, 2)


class Hits(unittest.TestCase):

    def test_edges(self):
        self.assertEqual(least_hits(()), ((),))
        self.assertEqual(least_hits(((),)), ())
        self.assertEqual(least_hits((((0, 0),), ())), ())
        self.assertEqual(least_hits(lots=(((0, 0), (0, 1)),)), (((0, 0),), ((0, 1),)))
        self.assertEqual(least_hits((((0, 1), (10 ** 12, 0)), ((0, 1), (3, 1)))),
                         (((0, 1),), ((3, 1), (10 ** 12, 0))))
        self.assertEqual(least_hits((((0, 0),), ((0, 0),), ((0, 0), (1, 0)))), (((0, 0),),))

    def test_against_all_lots(self):
        dice = Dice(323)
        ends = tuple((at, side) for at in range(4) for side in (0, 1))
        for _ in range(150):
            lots = tuple(tuple(end for end in ends if dice.chance(1, 3)) for _ in range(dice.between(0, 6)))
            self.assertEqual(least_hits(lots), least_among(ends, lambda lot: all(set(lot) & set(o) for o in lots)))

    def test_many_lots(self):
        ends = tuple((at, side) for at in range(6) for side in (0, 1))
        hits = least_hits(tuple(combinations(ends, 6)))
        self.assertEqual(hits, tuple(combinations(ends, 7)))


class RowsToBlame(unittest.TestCase):

    def test_by_the_words(self):
        dice = Dice(324)
        seen = 0
        for _ in range(600):
            system, box = any_case(dice)
            lots = [used_ends(row) for row in system.rows if is_barred(row, box)]
            self.assertEqual(row_blames(box=box, system=system), least_of_lots(lots))
            seen += len(set(lots)) > len(least_of_lots(lots))
        self.assertGreater(seen, 20)

    def test_two_rows_with_the_same_ends(self):
        system = read_system("x + y >= 1\nx + 2 y >= 1\nx + y + z >= 1")
        box = ((None, ZERO), (None, ZERO), (None, ZERO))
        self.assertEqual(row_blames(system, box), (((0, 1), (1, 1)),))

    def test_single_systems_and_gaps(self):
        dice = Dice(325)
        seen = {True: 0, False: 0}
        while min(seen.values()) < 40:
            system = any_system(dice, dice.between(2, 4), dice.between(2, 4), 1, 1)
            verdict = court(system)
            single = not isinstance(verdict, Gap)
            seen[single] += 1
            if not single:
                self.assertNotEqual(row_blames(system, verdict.box), all_blames(system, verdict.box))
            elif seen[single] < 100:
                for _ in range(5):
                    box = any_box(dice, len(system.names), 3, 9)
                    self.assertEqual(row_blames(system, box), all_blames(system, box))


class Forcing(unittest.TestCase):

    def test_ordinary_inputs(self):
        # x >= y >= z >= 1, so the low of x is 1.
        box = ((None, None), ((-5, 1), (5, 1)), ((1, 1), None))
        for value, lots in (((1, 1), (((2, 0),),)), ((-5, 1), (((1, 0),), ((2, 0),))), ((3, 2), ())):
            self.assertEqual(all_forcing(CHAIN, box, (0, 0), value), lots)
        self.assertEqual(row_forcing(CHAIN, box, (0, 0), (1, 1)), ())
        self.assertEqual(row_forcing(CLOSED, box, (0, 0), (1, 1)), (((2, 0),),))
        self.assertEqual(row_forcing(value=(-5, 1), end=(0, 0), box=box, system=CLOSED), (((1, 0),), ((2, 0),)))
        self.assertIs(is_forced(CHAIN, box, ((2, 0),) + STRANGE, (0, 0), (1, 1)), True)
        self.assertIs(is_forced(CHAIN, box, ((1, 0), (1, 1)), (0, 0), (1, 1)), False)
        self.assertIs(is_forced(value=(10 ** 9 + 1, 10 ** 9), end=(0, 0), ends=((2, 0),), box=box, system=CHAIN), False)
        self.assertIs(is_forced(CHAIN, box, (), (0, 0), (-100, 1)), False)

    def test_the_end_itself(self):
        box = (((1, 2), (3, 1)), (None, None), (None, None))
        free = System(("x", "y", "z"), ())
        for call in (all_forcing, row_forcing):
            for end, value, forced in (((0, 0), (1, 2), True), ((0, 0), (1, 3), True), ((0, 0), (2, 3), False),
                                       ((0, 1), (3, 1), True), ((0, 1), (4, 1), True), ((0, 1), (5, 2), False),
                                       ((1, 0), (-9, 1), False), ((1, 1), (9, 1), False)):
                self.assertEqual(call(free, box, end, value), ((end,),) if forced else ())

    def test_rows_alone(self):
        # A row with one unknown forces with no end at all.
        system = read_system("x >= 1\nx + y >= 3")
        box = ((ZERO, None), (None, (1, 1)))
        for call in (all_forcing, row_forcing):
            self.assertEqual(call(system, box, (0, 0), (1, 1)), ((),))
            self.assertEqual(call(system, box, (0, 0), (2, 1)), (((1, 1),),))
            self.assertEqual(call(system, box, (0, 0), (5, 2)), ())
            self.assertEqual(call(system, box, (0, 1), (5, 2)), ())

    def test_rows_that_bar(self):
        system = read_system("x + y >= 3")
        box = ((None, ZERO), (None, (1, 1)))
        for call in (all_forcing, row_forcing):
            self.assertEqual(call(system, box, (0, 1), (-4, 1)), (((0, 1), (1, 1)),))
            self.assertEqual(call(system, box, (1, 0), (5, 2)), (((0, 1),),))

    def test_against_all_lots(self):
        dice = Dice(326)
        seen = 0
        for _ in range(600):
            system, box = any_case(dice)
            end, value = (dice.below(len(box)), dice.below(2)), any_fraction(dice, 4)
            ends = box_ends(box)
            found = all_forcing(system, box, end, value)
            seen += len(found) > 1
            self.assertEqual(found, least_among(ends, lambda lot: forces(system, box, lot, end, value)))
            for lot in found:
                self.assertEqual(len({at for at, _ in lot}), len(lot))
            lot = tuple(one for one in ends if dice.chance(2, 3))
            self.assertIs(is_forced(system, box, lot + STRANGE, end, value), forces(system, box, lot, end, value))
        self.assertGreater(seen, 20)

    def test_rows_by_the_words(self):
        dice = Dice(327)
        seen = 0
        for _ in range(400):
            system, box = any_case(dice)
            at, side = end = (dice.below(len(box)), dice.below(2))
            value = any_fraction(dice, 4)
            sign = 1 if side else -1
            lots = []
            if box[at][side] is not None and sign * (frac(box[at][side]) - frac(value)) <= 0:
                lots.append((end,))
            for row in system.rows:
                rest = top_of((changed(row[0], at, 0), 0), box)
                if rest is not None and row[0][at] * sign < 0:
                    if sign * ((row[1] - rest) / row[0][at] - frac(value)) <= 0:
                        lots.append(tuple(one for one in used_ends(row) if one[0] != at))
                if is_barred(row, box):
                    lots.append(used_ends(row))
            seen += len(lots) > 1
            self.assertEqual(row_forcing(system, box, end, value), least_of_lots(lots))
        self.assertGreater(seen, 50)

    def test_single_systems_and_gaps(self):
        dice = Dice(328)
        seen = {True: 0, False: 0}
        while min(seen.values()) < 40:
            system = any_system(dice, dice.between(2, 4), dice.between(2, 4), 1, 1)
            verdict = court(system)
            single = not isinstance(verdict, Gap)
            seen[single] += 1
            if single and seen[single] < 100:
                for _ in range(5):
                    box = any_box(dice, len(system.names), 3, 8)
                    end, value = (dice.below(len(box)), dice.below(2)), any_fraction(dice, 3)
                    self.assertEqual(row_forcing(system, box, end, value), all_forcing(system, box, end, value))
            if not single:
                # Some end at some value is forced by the ends of the empty box, but not by rows.
                box, end = verdict.box, (verdict.at, 0)
                value = (10 ** 9, 1)
                self.assertNotEqual(row_forcing(system, box, end, value), all_forcing(system, box, end, value))

    def test_six_names(self):
        dice = Dice(329)
        system = any_system(dice, 6, 60, 10 ** 6, 10 ** 6)
        found = all_forcing(system, any_box(dice, 6, 10 ** 9, 10), (5, 1), (-10 ** 9, 1))
        self.assertEqual(found, tuple(sorted(found)))
        self.assertEqual(all_forcing(System(NAMES, ()), ((ZERO, (1, 1)),) * 6, (5, 1), (1, 1)), (((5, 1),),))


if __name__ == "__main__":
    unittest.main()
