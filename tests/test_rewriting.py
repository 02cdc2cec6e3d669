"""Points [30] and [31]: papers become rows, and one question shows each gap."""

import unittest

from rowalone.bars import barring, crossing
from rowalone.boxes import check_box, free_box, halves, within
from rowalone.court import Gap, Single, court
from rowalone.differences import arc_row, closed_differences, positive_ring
from rowalone.eliminations import eliminated, eliminations
from rowalone.equations import equal_system, least_equations
from rowalone.papers import check_combination, check_paper, is_sum_of, point_or_paper
from rowalone.rewriting import barring_row, crossed_box, rewritten
from rowalone.systems import System, system_of
from rowalone.texts import read_system
from tests.helpers import (Dice, NAMES, any_box, any_fraction, any_numbers, any_row, any_system, given, is_barred,
                           is_plain_in_python, raised, wrong_boxes, wrong_combinations)

ZERO = (0, 1)
CHAIN = System(("x", "y", "z"), (((0, 1, -1), 0), ((1, -1, 0), 0)))
CLOSED = System(("x", "y", "z"), CHAIN.rows + (((1, 0, -1), 0),))
BOX = ((None, ZERO), (None, None), ((1, 1), None))


def by_rounds(system):
    """A single system with the same solutions, by eliminations; None if it has many rows."""
    while system is not None:
        fresh = []
        for one, other, at in eliminations(system):
            row = eliminated(system.rows[one], system.rows[other], at)
            if row is not None and not is_sum_of(system.rows, row):
                fresh.append(row)
        if not fresh:
            return system
        rows = system.rows + tuple(fresh)
        system = system_of(system.names, rows) if raised(system_of, system.names, rows) is None else None
        if system is not None and raised(eliminations, system) is not None:
            system = None
    return None


def any_single(dice):
    """A single system with eliminations: of equations, of differences, or by rounds."""
    while True:
        kind, size = dice.below(3), dice.between(1, 5)
        if kind == 0:
            system = equal_system(NAMES[:size], tuple(any_row(dice, size, 2, 2) for _ in range(dice.between(1, 3))))
            if raised(least_equations, system) is None:
                return least_equations(system)
        if kind == 1:
            pairs = [(dice.below(size + 1), dice.below(size + 1)) for _ in range(8)]
            rows = tuple(arc_row(size, (a, b, any_fraction(dice, 3))) for a, b in pairs if a != b)
            system = system_of(NAMES[:size], rows)
            if positive_ring(system) is None:
                return closed_differences(system)
        if kind == 2:
            system = any_system(dice, min(size, 4), dice.between(2, 4), 2, 3)
            if point_or_paper(system, free_box(system))[0] == "point":
                system = by_rounds(system)
                if system is not None:
                    return system


class Rewritten(unittest.TestCase):

    def check(self, system, single, numbers):
        found = rewritten(system, single, numbers)
        self.assertIsNone(check_combination(system, found))
        self.assertTrue(is_plain_in_python(system, found))
        coefficients, bound = given(system, numbers)
        others, total = given(system, found)
        self.assertEqual(others, coefficients)
        self.assertGreaterEqual(total, bound)
        return found

    def test_ordinary_inputs(self):
        single = court(CLOSED)
        self.assertEqual(rewritten(CLOSED, single, ((1, 1), (1, 1), ZERO)), (ZERO, ZERO, (1, 1)))
        self.assertEqual(rewritten(CLOSED, single, ((1, 2), (2, 1), (1, 3))), (ZERO, (3, 2), (5, 6)))
        self.assertEqual(rewritten(numbers=(ZERO,) * 3, single=single, system=CLOSED), (ZERO,) * 3)
        plain = ((7, 3), ZERO, (1, 5))
        self.assertEqual(self.check(CLOSED, single, plain), plain)
        self.assertEqual(rewritten(System(("x",), ()), Single(()), ()), ())

    def test_sums_without_coefficients(self):
        system = read_system("x >= 1\nx <= 2")
        self.assertEqual(rewritten(system, court(system), ((2, 1), (1, 1))), ((1, 1), ZERO))
        self.assertEqual(rewritten(system, court(system), ((1, 1), (1, 1))), (ZERO, ZERO))

    def test_single_systems(self):
        dice = Dice(411)
        cancelled = 0
        for _ in range(150):
            system = any_single(dice)
            single = court(system)
            self.assertIsInstance(single, Single)
            for _ in range(4):
                numbers = any_numbers(dice, len(system.rows), 4, dice.between(1, 10))
                cancelled += self.check(system, single, numbers) != numbers
        self.assertGreater(cancelled, 150)

    def test_other_right_singles(self):
        # A sum may also use rows that are not needed, and have a greater bound than the row.
        system = read_system("x - y >= 0\ny - z >= 0\nx - z >= 0\nx >= 0\nz <= 0")
        row = system.rows.index(((1, 0, -1), 0))
        triples = eliminations(system)
        sums = list(court(system).sums)
        place = triples.index((system.rows.index(((0, 1, -1), 0)), system.rows.index(((1, -1, 0), 0)), 1))
        sums[place] = tuple((1, 2) if at == row or sum(map(abs, one[0])) == 1 else ZERO
                            for at, one in enumerate(system.rows))
        numbers = tuple((1, 1) if -1 in one[0] and 1 in one[0] else ZERO for one in system.rows)
        self.check(system, Single(tuple(sums)), numbers)

    def test_many_rows(self):
        dice = Dice(412)
        size = 6
        pairs = [(a, b) for a in range(7) for b in range(7) if a != b]
        rows = tuple(arc_row(size, (a, b, (-abs(dice.between(0, 9)) - 5, 1))) for a, b in pairs)
        system = closed_differences(system_of(NAMES, rows))
        single = court(system)
        for _ in range(10):
            self.check(system, single, any_numbers(dice, len(system.rows), 9, 9))


class BarringRow(unittest.TestCase):

    def test_examples(self):
        self.assertEqual(barring_row(CLOSED, court(CLOSED), BOX, ((1, 1), (1, 1), ZERO)), 2)

    def test_errors_in_their_order(self):
        single = court(CLOSED)
        for value, at in wrong_boxes(3):
            self.assertEqual(raised(barring_row, CLOSED, single, value, None), ("InvalidBox", at), value)
        for value, at in wrong_combinations(3):
            self.assertEqual(raised(barring_row, CLOSED, single, BOX, value), ("InvalidPaper", at), value)
        for value in ((ZERO,) * 3, ((1, 1), ZERO, ZERO), ((1, 1), (2, 1), ZERO)):
            self.assertEqual(raised(barring_row, CLOSED, single, BOX, value), ("InvalidPaper", 3))
        self.assertEqual(raised(barring_row, paper=(ZERO, ZERO, (1, 1)), box=free_box(CLOSED), single=single,
                                system=CLOSED), ("InvalidPaper", 3))

    def test_papers_of_single_systems(self):
        dice = Dice(413)
        checked = 0
        while checked < 200:
            system = any_single(dice)
            single = court(system)
            for _ in range(5):
                box = any_box(dice, len(system.names), 3, 9)
                word, paper = point_or_paper(system, box)
                if word == "paper":
                    checked += 1
                    self.assertTrue(is_barred(system.rows[barring_row(system, single, box, paper)], box))
                    self.check_greater(dice, system, single, box)

    def check_greater(self, dice, system, single, box):
        """Papers with needless rows are rewritten as well."""
        numbers = any_numbers(dice, len(system.rows), 3, 9)
        if raised(check_paper, system, box, numbers) is None:
            self.assertTrue(is_barred(system.rows[barring_row(system, single, box, numbers)], box))


class CrossedBox(unittest.TestCase):

    def check(self, system, gap):
        box = crossed_box(system, gap)
        self.assertIsNone(check_box(system, box))
        self.assertTrue(within(box, gap.box))
        self.assertEqual(barring(system, box), ())
        at, value, one, other = crossing(system, box)
        lower, upper = halves(box, at, value)
        self.assertIn(one, barring(system, lower))
        self.assertIn(other, barring(system, upper))

    def test_ordinary_inputs(self):
        gap = Gap(0, 1, 1, BOX, ((1, 1), (1, 1)))
        self.assertEqual(crossed_box(CHAIN, gap), BOX)
        clash = read_system("x - y >= 1\ny - x >= 0")
        self.check(clash, court(clash))

    def test_gaps_where_no_question_is_open_at_first(self):
        dice = Dice(414)
        later = 0
        for _ in range(1500):
            system = any_system(dice, dice.between(2, 5), dice.between(2, 7), dice.pick((1, 2, 5)), 3)
            gap = court(system)
            if isinstance(gap, Gap):
                self.check(system, gap)
                later += crossing(system, gap.box) is None
        self.assertGreater(later, 5)

    def test_gaps_that_the_court_does_not_return(self):
        # The box of the gap may have more ends, which may be equal, or both halves of the rows.
        box = (((-9, 1), ZERO), ((-3, 1), (3, 1)), ((1, 1), (1, 1)))
        self.check(CHAIN, Gap(0, 1, 1, box, ((5, 2), (5, 2))))

    def test_single_exactly_without_such_a_box(self):
        dice = Dice(415)
        for _ in range(60):
            system = any_single(dice)
            for _ in range(5):
                box = any_box(dice, len(system.names), 3, 8)
                if not barring(system, box):
                    self.assertIsNone(crossing(system, box))


if __name__ == "__main__":
    unittest.main()
