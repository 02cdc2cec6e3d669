"""Points [28] and [29]: verdicts, and the court."""

import unittest

from rowalone.boxes import free_box
from rowalone.court import Gap, Single, court, is_single, is_verdict
from rowalone.eliminations import eliminations, joined_rows
from rowalone.papers import check_paper, check_plain, point_or_paper
from rowalone.systems import System, least_form, system_of
from rowalone.texts import read_system
from tests.helpers import (Anything, Dice, NAMES, any_box, any_numbers, any_system, changed, given, is_barred,
                           is_plain_in_python, odd_values, raised, top_of, wrong_boxes, wrong_combinations)

ZERO = (0, 1)
CHAIN = System(("x", "y", "z"), (((0, 1, -1), 0), ((1, -1, 0), 0)))
CLOSED = System(("x", "y", "z"), CHAIN.rows + (((1, 0, -1), 0),))
BOX = ((None, (0, 1)), (None, None), ((1, 1), None))
GAP = (0, 1, 1, BOX, ((1, 1), (1, 1)))
SUMS = ((ZERO, ZERO, (1, 1)),)


def steep(plus, minus, more):
    """Sixty rows for six names: for the first three 30 of each sign, for the fourth one so many."""
    rows = []
    for number in range(60):
        sign = 1 if number < 30 else -1
        fourth = 1 if number < plus else -1 if number < plus + minus else 0
        rows.append(((sign, sign, sign, fourth, more, 1), number if sign > 0 else -number - 100))
    return System(NAMES, tuple(sorted(rows)))


def is_right(system, verdict):
    """Whether a verdict is right, told in Python's own fractions."""
    rows = system.rows
    triples = eliminations(system)
    if isinstance(verdict, Single):
        if len(verdict.sums) != len(triples):
            return False
        for (one, other, at), numbers in zip(triples, verdict.sums):
            coefficients, bound = given(system, numbers)
            factor, further = -rows[other][0][at], rows[one][0][at]
            joined = [factor * a + further * b for a, b in zip(rows[one][0], rows[other][0])]
            total = factor * rows[one][1] + further * rows[other][1]
            row = least_form(tuple(joined), total)
            if row is None:
                if any(number != ZERO for number in numbers) or total > 0:
                    return False
            elif not is_plain_in_python(system, numbers) or coefficients != list(row[0]) or bound < row[1]:
                return False
        return True
    used = [at for at, number in enumerate(verdict.paper) if number[0] > 0]
    coefficients, bound = given(system, verdict.paper)
    top = top_of((coefficients, bound), verdict.box)
    return ((verdict.one, verdict.other, verdict.at) in triples and used == sorted((verdict.one, verdict.other))
            and not any(is_barred(row, verdict.box) for row in rows) and coefficients[verdict.at] == 0
            and top is not None and top < bound)


class Verdicts(unittest.TestCase):

    def test_objects_keep_any_values(self):
        for value in odd_values():
            self.assertIs(Single(value).sums, value)
            gap = Gap(value, 2, 3, 4, 5)
            self.assertEqual((gap.other, gap.at, gap.box, gap.paper), (2, 3, 4, 5))
            self.assertIs(gap.one, value)
            self.assertIs(Gap(box=value, paper=1, at=2, other=3, one=4).box, value)
        self.assertEqual(Single(sums=((),)).sums, ((),))

    def test_right_ones(self):
        self.assertIs(is_verdict(CHAIN, Gap(*GAP)), True)
        self.assertIs(is_verdict(CLOSED, Single(SUMS)), True)
        self.assertIs(is_verdict(CLOSED, Single(changed(SUMS, 0, (ZERO, ZERO, (2, 1))))), False)
        self.assertIs(is_verdict(value=Single(()), system=System(("x",), ())), True)
        self.assertIs(is_verdict(CHAIN, Gap(*changed(GAP, 4, ((2, 1), (2, 1))))), True)

    def test_no_verdicts(self):
        for value in odd_values() + [Single, Gap, GAP, SUMS, (SUMS,), Anything()]:
            self.assertIs(is_verdict(CHAIN, value), False)
            self.assertIs(is_verdict(System(("x",), ()), value), False)

    def test_wrong_singles(self):
        two = read_system("x + y >= 0\nx - y >= 0\nx >= 0")
        self.assertIs(is_verdict(two, court(two)), True)
        sums = court(two).sums
        for value in odd_values() + [(), sums + sums, list(sums), [], (list(sums[0]),)]:
            self.assertIs(is_verdict(two, Single(value)), False)
        for value, _ in wrong_combinations(3):
            self.assertIs(is_verdict(two, Single((value,))), False)
        # Something cancels, the bound is lower, or others coefficients are given.
        self.assertIs(is_verdict(two, Single((((1, 2), (1, 2), ZERO),))), False)
        low = read_system("x + y >= 1\nx - y >= 1\nx >= 0")
        self.assertIs(is_verdict(low, Single((changed((ZERO,) * 3, low.rows.index(((1, 0), 0)), (1, 1)),))), False)
        self.assertIs(is_verdict(two, Single(((ZERO,) * 3,))), False)

    def test_singles_where_no_coefficients_are_left(self):
        system = read_system("x >= 1\nx <= 2")
        self.assertIs(is_verdict(system, Single(((ZERO, ZERO),))), True)
        for value in ((ZERO, (1, 1)), ((False, 1), ZERO), (ZERO,), [ZERO, ZERO], (ZERO, (0, 2)), None):
            self.assertIs(is_verdict(system, Single((value,))), False)
        clash = read_system("x >= 1\nx <= 0")
        self.assertIs(is_verdict(clash, Single(((ZERO, ZERO),))), False)
        touching = read_system("x >= 1\nx <= 1")
        self.assertIs(is_verdict(touching, Single(((ZERO, ZERO),))), True)

    def test_wrong_gaps(self):
        for at in range(3):
            for value in odd_values() + [-1, 2, 3, GAP[at] + 10 ** 30, float(GAP[at]), bool(GAP[at]), (GAP[at],)]:
                if value != GAP[at] or not isinstance(value, int) or isinstance(value, bool):
                    self.assertIs(is_verdict(CHAIN, Gap(*changed(GAP, at, value))), False, value)
        for value, _ in wrong_boxes(3):
            self.assertIs(is_verdict(CHAIN, Gap(*changed(GAP, 3, value))), False, value)
        for value, _ in wrong_combinations(2):
            self.assertIs(is_verdict(CHAIN, Gap(*changed(GAP, 4, value))), False, value)
        self.assertIs(is_verdict(CHAIN, Gap(1, 0, 1, BOX, GAP[4])), False)
        self.assertIs(is_verdict(CHAIN, Gap(None, [], {}, BOX, 5)), False)
        # A box that is not empty, one that a row bars, and ends that touch.
        for box in (free_box(CHAIN), ((None, (0, 1)), ((1, 1), None), ((1, 1), None)),
                    ((None, (1, 1)), (None, None), ((1, 1), None))):
            self.assertIs(is_verdict(CHAIN, Gap(*changed(GAP, 3, box))), False)
        # Papers that use one row alone, or do not eliminate the unknown.
        for paper in (((1, 1), ZERO), ((1, 1), (2, 1)), (ZERO, ZERO)):
            self.assertIs(is_verdict(CHAIN, Gap(*changed(GAP, 4, paper))), False)
        self.assertIs(is_verdict(CLOSED, Gap(0, 1, 1, BOX, GAP[4] + (ZERO,))), False)

    def test_papers_that_use_a_further_row(self):
        system = System(("w", "x", "y", "z"), tuple(sorted(((0,) + row[0], 0) for row in CHAIN.rows)) +
                        (((1, 0, 0, 0), 0),))
        box = ((ZERO, ZERO),) + BOX
        for further, right in ((ZERO, True), ((1, 1), False)):
            gap = Gap(0, 1, 2, box, ((1, 1), (1, 1), further))
            self.assertIsNone(check_paper(system, box, gap.paper))
            self.assertIs(is_verdict(system, gap), right)

    def test_papers_must_give_the_unknown_no_coefficient(self):
        box = (BOX[0], ((0, 1), (1, 1)), BOX[2])
        for paper, right in (((1, 1), (1, 1)), True), (((4, 3), (1, 1)), False):
            self.assertIsNone(check_paper(CHAIN, box, paper))
            self.assertIs(is_verdict(CHAIN, Gap(0, 1, 1, box, paper)), right)


class Court(unittest.TestCase):

    def test_examples(self):
        self.assertIsInstance(court(read_system("x - y >= 0\ny - z >= 0\nx - z >= 0")), Single)
        self.assertIsInstance(court(read_system("x - y >= 0\ny - z >= 0")), Gap)
        gap = court(CHAIN)
        self.assertEqual((gap.one, gap.other, gap.at), (0, 1, 1))
        self.assertIs(is_single(CLOSED), True)
        self.assertIs(is_single(system=CHAIN), False)

    def test_systems_without_unlike_signs(self):
        for system in (System(("x",), ()), System(NAMES, ()), System(("x",), (((-3,), 2),)),
                       any_system(Dice(301), 1, 1, 5, 5)):
            self.assertEqual(court(system).sums, ())
            self.assertIs(is_single(system), True)
        rows = tuple(sorted(((number, 1, 0, 5, -1, -number), 7 - number) for number in range(60)))
        self.assertEqual(court(System(NAMES, rows)).sums, ())

    def test_systems_without_a_solution(self):
        self.assertIs(is_single(read_system("x >= 1\nx <= 0")), False)
        dice = Dice(302)
        seen = 0
        while seen < 60:
            system = any_system(dice, dice.between(1, 4), dice.between(2, 8), 2, 4)
            if point_or_paper(system, free_box(system))[0] == "paper":
                seen += 1
                gap = court(system)
                self.assertIsInstance(gap, Gap)
                self.assertTrue(is_right(system, gap))

    def test_more_than_3000_triples(self):
        for plus, minus, wide in ((10, 30, False), (7, 43, True)):
            system = steep(plus, minus, 1)
            self.assertEqual(raised(court, system), ("Refused", "wide") if wide else None)
            self.assertEqual(raised(is_single, system), ("Refused", "wide") if wide else None)
        self.assertEqual(len(eliminations(steep(10, 30, 1))), 3000)
        self.assertTrue(is_right(steep(10, 30, 1), court(steep(10, 30, 1))))

    def test_verdicts_over_more_than_3000_triples(self):
        system = steep(7, 43, 1)
        self.assertIs(is_verdict(system, Single(((ZERO,) * 60,) * 3001)), False)
        self.assertIs(is_verdict(system, Single(())), False)
        one = next(at for at, row in enumerate(system.rows) if row[0][0] > 0)
        other = next(at for at, row in enumerate(system.rows) if row[0][0] < 0)
        paper = tuple((1, 1) if at in (one, other) else ZERO for at in range(60))
        coefficients, bound = joined_rows(system.rows[one], system.rows[other], 0)
        box = tuple((None, (-1000, 1)) if number > 0 else ((1000, 1), None) if number < 0 else (None, None)
                    for number in coefficients)
        self.assertIs(is_verdict(system, Gap(one, other, 0, box, paper)), True)
        self.assertIs(is_verdict(system, Gap(other, one, 0, box, paper)), False)
        self.assertIs(is_verdict(system, Gap(one, other, 3, box, changed(paper, one, (2, 1)))), False)

    def test_right_verdicts(self):
        dice = Dice(303)
        seen = {"Single": 0, "Gap": 0}
        for _ in range(500):
            size = dice.between(1, 6)
            limit = dice.pick((1, 1, 2, 10 ** 6))
            system = any_system(dice, size, dice.between(0, 7), limit, dice.pick((0, limit, 5)))
            verdict = court(system)
            seen[type(verdict).__name__] += 1
            self.assertTrue(is_right(system, verdict))
            self.assertIs(is_verdict(system, verdict), True)
            self.assertIs(is_single(system), isinstance(verdict, Single))
        self.assertGreater(min(seen.values()), 100)

    def test_single_systems_bar_all_empty_boxes(self):
        dice = Dice(304)
        checked = 0
        while checked < 60:
            system = self.closed(dice)
            if isinstance(court(system), Single):
                checked += 1
                self.assertTrue(is_right(system, court(system)))
                for _ in range(20):
                    box = any_box(dice, len(system.names), 4, 8)
                    empty = point_or_paper(system, box)[0] == "paper"
                    self.assertEqual(empty, any(is_barred(row, box) for row in system.rows))

    def closed(self, dice):
        """A system with at least one elimination to which all eliminated rows have been added twice."""
        while True:
            size = dice.between(2, 4)
            system = any_system(dice, size, dice.between(2, 4), 2, 3)
            rows = list(system.rows)
            for _ in range(2):
                for one, other, at in eliminations(system):
                    rows.append(joined_rows(system.rows[one], system.rows[other], at))
                if raised(system_of, system.names, tuple(rows)) is not None:
                    break
                system = system_of(system.names, tuple(rows))
            else:
                if eliminations(system):
                    return system

    def test_one_of_both_is_right(self):
        # Over a system with a right Single, a box with such a paper is barred by a row.
        dice = Dice(305)
        seen = 0
        while seen < 40:
            system = self.closed(dice)
            if is_single(system):
                seen += 1
                for one, other, at in eliminations(system)[:5]:
                    for _ in range(5):
                        box = any_box(dice, len(system.names), 4, 8)
                        rows = system.rows
                        paper = [ZERO] * len(rows)
                        paper[one], paper[other] = (-rows[other][0][at], 1), (rows[one][0][at], 1)
                        self.assertIs(is_verdict(system, Gap(one, other, at, box, tuple(paper))), False)

    def test_gaps_with_further_unlike_signs(self):
        dice = Dice(306)
        further = 0
        for _ in range(300):
            system = any_system(dice, 3, 2, 3, 3)
            verdict = court(system)
            if isinstance(verdict, Gap):
                one, other = system.rows[verdict.one], system.rows[verdict.other]
                further += sum(a * b < 0 for a, b in zip(one[0], other[0])) > 1
                self.assertTrue(is_right(system, verdict))
        self.assertGreater(further, 20)

    def test_verdicts_of_other_systems(self):
        dice = Dice(307)
        for _ in range(100):
            system, other = (any_system(dice, 2, dice.between(1, 4), 2, 2) for _ in range(2))
            verdict = court(system)
            if isinstance(verdict, Single):
                same = all(len(numbers) == len(other.rows) for numbers in verdict.sums)
                right = same and len(eliminations(other)) == len(verdict.sums) and is_right(other, verdict)
                self.assertIs(is_verdict(other, verdict), right)

    def test_sums_against_check_plain(self):
        dice = Dice(308)
        for _ in range(100):
            system = self.closed(dice)
            verdict = court(system)
            if not isinstance(verdict, Single):
                continue
            for place, (one, other, at) in enumerate(eliminations(system)):
                coefficients, bound = joined_rows(system.rows[one], system.rows[other], at)
                row = least_form(coefficients, bound)
                numbers = any_numbers(dice, len(system.rows), 2, 2)
                if row is not None:
                    right = raised(check_plain, system, row, numbers) is None
                    self.assertIs(is_verdict(system, Single(changed(verdict.sums, place, numbers))), right)


if __name__ == "__main__":
    unittest.main()
