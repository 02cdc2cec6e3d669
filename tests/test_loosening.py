"""Points [74] to [76]: cheapest loosenings, how far ends must move, and all ends alike."""

import unittest
from fractions import Fraction
from itertools import combinations

from rowalone.bars import barring, used_ends
from rowalone.blame import all_blames
from rowalone.boxes import box_ends, free_box, only_ends
from rowalone.court import Gap, court
from rowalone.loosening import (cheapest_loosening, even_move, even_move_by_rows, how_far, how_far_by_rows, moved_box,
                                shared_costs)
from rowalone.papers import point_or_paper
from rowalone.systems import System, system_of
from rowalone.texts import read_system
from tests.helpers import (Dice, NAMES, any_box, any_row, any_system, frac, given, is_barred, is_in, is_kept, pair,
                           raised, top_of, wrong_boxes)

ZERO = (0, 1)
THREE = System(("x", "y", "z"), (((0, 1, 1), 1), ((1, 0, 1), 1), ((1, 1, 0), 1)))
LOW = ((None, ZERO),) * 3
COSTS = {(0, 1): 1, (1, 1): 1, (2, 1): 1}
CHAIN = System(("x", "y", "z"), (((0, 1, -1), 0), ((1, -1, 0), 0)))
BARRED = read_system("x >= 1\nx <= 0\ny >= 0")
BY_SUMS = (cheapest_loosening, shared_costs, how_far, even_move)
BY_ROWS = (how_far_by_rows, even_move_by_rows)
STRANGE = {(7, 0): 3, (9, 1): 0, (0, 7): 5}


def is_empty(system, box):
    return point_or_paper(system, box)[0] == "paper"


def any_case(dice, most=3):
    """A system that may have a solution, a box, and costs for some ends."""
    size = dice.between(1, most)
    rows = tuple(any_row(dice, size, dice.pick((1, 2, 3)), 2) for _ in range(dice.between(0, 5)))
    rows = tuple((numbers, bound + dice.pick((0, 3))) for numbers, bound in rows)
    costs = {(at, side): dice.below(5) for at in range(size) for side in (0, 1) if dice.chance(5, 6)}
    return system_of(NAMES[:size], rows), any_box(dice, size, 2, dice.between(7, 10)), costs


def refusal(system, box, fixed):
    """What functions not by rows raise, None if they raise nothing."""
    if is_empty(system, free_box(system)):
        return ("Refused", "none")
    return ("Refused", "fixed") if is_empty(system, only_ends(box, fixed)) else None


def refusal_by_rows(system, box, fixed):
    lots = [used_ends(row) for row in system.rows if is_barred(row, box)]
    return ("Refused", "fixed") if any(set(lot) <= set(fixed) for lot in lots) else None


def by_hand(box, moves):
    found = [list(ends) for ends in box]
    for (at, side), move in moves.items():
        found[at][side] = pair(frac(box[at][side]) + (frac(move) if side else -frac(move)))
    return tuple(tuple(ends) for ends in found)


class Errors(unittest.TestCase):

    def test_boxes_are_checked_first(self):
        for call in BY_SUMS + BY_ROWS:
            for value, at in wrong_boxes(3):
                self.assertEqual(raised(call, THREE, value, {}), ("InvalidBox", at), value)
            self.assertEqual(raised(call, BARRED, ((ZERO, ZERO), None), {}), ("InvalidBox", 1))

    def test_no_solution_and_fixed_ends(self):
        both = ((ZERO, ZERO), (None, (-1, 1)))
        for call in BY_SUMS:
            self.assertEqual(raised(call, BARRED, both, {}), ("Refused", "none"))
            self.assertEqual(raised(call, BARRED, both, {(0, 0): 1, (0, 1): 1, (1, 1): 1}), ("Refused", "none"))
            self.assertEqual(raised(call, THREE, LOW, {}), ("Refused", "fixed"))
            self.assertEqual(raised(call, THREE, LOW, {(0, 1): 1, **STRANGE}), ("Refused", "fixed"))
            self.assertIsNone(raised(call, THREE, LOW, {(0, 1): 1, (2, 1): 5}))
            # Keys of ends that the box does not have are nothing.
            self.assertEqual(raised(call, THREE, LOW, {(0, 0): 1, (1, 0): 1, (2, 0): 1}), ("Refused", "fixed"))
            self.assertIsNone(raised(call, THREE, ((None, None),) * 3, {}))
        for call in BY_ROWS:
            self.assertEqual(raised(call, BARRED, both, {}), ("Refused", "fixed"))
            self.assertIsNone(raised(call, BARRED, both, {(0, 0): 1, (0, 1): 1, (1, 1): 1}))
            self.assertEqual(raised(call, THREE, LOW, {(0, 1): 1}), ("Refused", "fixed"))
            self.assertIsNone(raised(call, THREE, LOW, {(0, 1): 1, (2, 1): 5}))
            # Fixed ends are to blame, but no row alone bars them.
            self.assertIsNone(raised(call, CHAIN, ((None, ZERO), (None, None), ((1, 1), None)), {}))

    def test_weights_of_0_are_fixed(self):
        for call in (even_move, even_move_by_rows):
            self.assertEqual(raised(call, THREE, LOW, {(0, 1): 1, (1, 1): 0, (2, 1): 0}), ("Refused", "fixed"))
        for call in (cheapest_loosening, shared_costs, how_far, how_far_by_rows):
            self.assertIsNone(raised(call, THREE, LOW, {(0, 1): 1, (1, 1): 0, (2, 1): 0}))


class Loosenings(unittest.TestCase):

    def test_examples(self):
        self.assertEqual((cheapest_loosening(THREE, LOW, COSTS)[0], shared_costs(THREE, LOW, COSTS)[0],
                          how_far(THREE, LOW, COSTS)[0]), (2, (3, 2), (3, 2)))

    def test_boxes_with_a_solution(self):
        box = ((ZERO, (1, 1)), (None, None), ((2, 1), (2, 1)))
        costs = {(0, 0): 3, (2, 1): 0, **STRANGE}
        for some in (costs, {}):
            self.assertEqual(cheapest_loosening(THREE, box, some), (0, ()))
            total, shares, parts = shared_costs(THREE, box, some)
            self.assertEqual((total, shares), (ZERO, {}))
            self.assertEqual(sorted(parts), [end for end in box_ends(box) if end in some])

    def test_against_all_loosenings(self):
        dice = Dice(531)
        seen = {"none": 0, "fixed": 0, "found": 0}
        for _ in range(500):
            system, box, costs = any_case(dice)
            ends = box_ends(box)
            loose = [end for end in ends if end in costs]
            fixed = tuple(end for end in ends if end not in costs)
            error = refusal(system, box, fixed)
            if error is not None:
                seen[error[1]] += 1
                for call in BY_SUMS[:3]:
                    self.assertEqual(raised(call, system, box, costs), error)
                continue
            seen["found"] += 1
            lots = [lot for many in range(len(loose) + 1) for lot in combinations(loose, many)
                    if not is_empty(system, only_ends(box, tuple(end for end in ends if end not in lot)))]
            cost, lot = cheapest_loosening(system, box, {**costs, **STRANGE})
            self.assertEqual(cost, min(sum(costs[end] for end in one) for one in lots))
            self.assertIsInstance(cost, int)
            self.assertIn(lot, lots)
            self.assertEqual(sum(costs[end] for end in lot), cost)
            self.check_shares(system, box, costs, cost, shared_costs(system, box, {**costs, **STRANGE}))
        self.assertGreater(min(seen.values()), 20)

    def check_shares(self, system, box, costs, cost, found):
        """Shares and parts show each other to be the greatest and the least."""
        total, shares, parts = found
        blames = all_blames(system, box)
        loose = [end for end in box_ends(box) if end in costs]
        self.assertEqual(sorted(parts), loose)
        self.assertTrue(set(shares) <= set(blames))
        self.assertTrue(all(share[0] > 0 for share in shares.values()))
        for end in loose:
            self.assertGreaterEqual(frac(parts[end]), 0)
            self.assertLessEqual(sum(frac(share) for lot, share in shares.items() if end in lot), costs[end])
        for lot in blames:
            self.assertGreaterEqual(sum(frac(parts[end]) for end in lot if end in parts), 1)
        self.assertEqual(sum(map(frac, shares.values()), Fraction(0)), frac(total))
        self.assertEqual(sum((costs[end] * frac(parts[end]) for end in loose), Fraction(0)), frac(total))
        self.assertLessEqual(frac(total), cost)
        if not any(len({side for _, side in lot}) < len(lot) for lot in blames):
            self.assertEqual(frac(total), cost)

    def test_returned_dicts_are_new(self):
        first = shared_costs(THREE, LOW, COSTS)
        first[1].clear()
        first[2].clear()
        self.assertEqual(len(shared_costs(THREE, LOW, COSTS)[2]), 3)
        self.assertEqual(COSTS, {(0, 1): 1, (1, 1): 1, (2, 1): 1})

    def test_six_names(self):
        dice = Dice(532)
        for many in (6, 20):
            system = any_system(dice, 6, many, 2, 4)
            box = any_box(dice, 6, 2, 10)
            costs = {end: dice.between(0, 10 ** 6) for end in box_ends(box)}
            if refusal(system, box, ()) is None:
                cost, lot = cheapest_loosening(system, box, costs)
                self.assertFalse(is_empty(system, only_ends(box, tuple(end for end in box_ends(box) if end not in lot))))
                self.check_shares(system, box, costs, cost, shared_costs(system, box, costs))


class Moves(unittest.TestCase):

    def test_moved_boxes(self):
        box = (((1, 1), (2, 1)), (None, (1, 2)), (None, None))
        self.assertEqual(moved_box(box, {}), box)
        self.assertEqual(moved_box(moves={(0, 0): (1, 2), (1, 1): (1, 3), (1, 0): (5, 1), (2, 1): (1, 1), (8, 0): ZERO},
                                   box=box), (((1, 2), (2, 1)), (None, (5, 6)), (None, None)))
        self.assertEqual(moved_box(box, {(0, 0): ZERO, (0, 1): (3, 1)}), (((1, 1), (5, 1)), box[1], box[2]))
        moves = {(0, 1): (3, 1)}
        moved_box(box, moves)
        self.assertEqual(moves, {(0, 1): (3, 1)})

    def check_far(self, system, box, costs, found):
        cost, moves, point, numbers = found
        loose = [end for end in box_ends(box) if end in costs]
        self.assertEqual(sorted(moves), loose)
        self.assertTrue(all(frac(move) >= 0 for move in moves.values()))
        self.assertEqual(moved_box(box, moves), by_hand(box, moves))
        self.assertTrue(is_in(point, by_hand(box, moves)) and all(is_kept(row, point) for row in system.rows))
        self.assertEqual(sum((costs[end] * frac(moves[end]) for end in loose), Fraction(0)), frac(cost))
        self.assertTrue(all(frac(number) >= 0 for number in numbers) and len(numbers) == len(system.rows))
        coefficients, bound = given(system, numbers)
        for at, number in enumerate(coefficients):
            end = (at, int(number > 0))
            if number != 0 and end in costs:
                self.assertLessEqual(abs(number), costs[end])
        self.assertEqual(top_of((coefficients, bound), box), bound - frac(cost))

    def check_rows(self, system, box, costs, found):
        cost, moves, numbers = found
        loose = [end for end in box_ends(box) if end in costs]
        self.assertEqual(sorted(moves), loose)
        self.assertTrue(all(frac(move) >= 0 for move in moves.values()))
        self.assertEqual(barring(system, by_hand(box, moves)), ())
        self.assertEqual(sum((costs[end] * frac(moves[end]) for end in loose), Fraction(0)), frac(cost))
        self.assertEqual(len(numbers), len(system.rows))
        total = Fraction(0)
        for row, number in zip(system.rows, numbers):
            self.assertGreaterEqual(frac(number), 0)
            if frac(number) > 0:
                self.assertTrue(is_barred(row, box))
                total += frac(number) * (row[1] - top_of(row, box))
        self.assertEqual(total, frac(cost))
        for end in loose:
            used = sum(frac(number) * abs(row[0][end[0]]) for row, number in zip(system.rows, numbers)
                       if end in used_ends(row))
            self.assertLessEqual(used, costs[end])

    def test_by_the_words(self):
        dice = Dice(533)
        seen = {"far": 0, "rows": 0, "alike": 0, "other": 0}
        for _ in range(600):
            system, box, costs = any_case(dice, 4)
            fixed = tuple(end for end in box_ends(box) if end not in costs)
            by_rows = None
            error = refusal_by_rows(system, box, fixed)
            self.assertEqual(raised(how_far_by_rows, system, box, costs), error)
            if error is None:
                seen["rows"] += 1
                by_rows = how_far_by_rows(system, box, {**costs, **STRANGE})
                self.check_rows(system, box, costs, by_rows)
            self.assertEqual(raised(how_far, system, box, costs), refusal(system, box, fixed))
            if refusal(system, box, fixed) is None:
                seen["far"] += 1
                found = how_far(system, box, {**costs, **STRANGE})
                self.check_far(system, box, costs, found)
                self.assertLessEqual(frac(by_rows[0]), frac(found[0]))
                if not isinstance(court(system), Gap):
                    seen["alike"] += found[0][0] > 0
                    self.assertEqual(by_rows[0], found[0])
                    self.assertFalse(is_empty(system, by_hand(box, by_rows[1])))
                else:
                    seen["other"] += by_rows[0] != found[0]
        self.assertGreater(min(seen.values()), 10, seen)

    def test_gaps(self):
        gap = court(CHAIN)
        costs = {end: 1 for end in box_ends(gap.box)}
        self.assertNotEqual(how_far(CHAIN, gap.box, costs)[0], how_far_by_rows(CHAIN, gap.box, costs)[0])
        self.assertEqual(how_far_by_rows(CHAIN, gap.box, costs)[0], ZERO)

    def test_ordinary_inputs(self):
        system, box = read_system("2 x + y >= 10"), ((None, (1, 1)), ((0, 1), (2, 1)))
        for call in (how_far, how_far_by_rows):
            self.assertEqual(call(system, box, {(0, 1): 3, (1, 1): 2})[:2], ((9, 1), {(0, 1): (3, 1), (1, 1): ZERO}))
            self.assertEqual(call(system, box, {(0, 1): 5, (1, 1): 2})[:2], ((12, 1), {(0, 1): ZERO, (1, 1): (6, 1)}))
            self.assertEqual(call(costs={(1, 1): 2, (1, 0): 1}, box=box, system=system)[0], (12, 1))
            self.assertEqual(call(system, box, {(0, 1): 0, (1, 1): 2})[0], ZERO)
            self.assertEqual(call(system, free_box(system), {(0, 1): 7})[:2], (ZERO, {}))

    def test_six_names(self):
        dice = Dice(534)
        for many, limit in ((6, 2), (60, 2), (60, 10 ** 3)):
            system = any_system(dice, 6, many, limit, -limit)
            box = any_box(dice, 6, 10 ** 3, 10)
            costs = {end: dice.between(1, 10 ** 3) for end in box_ends(box)}
            self.check_rows(system, box, costs, how_far_by_rows(system, box, costs))
            if refusal(system, box, ()) is None:
                self.check_far(system, box, costs, how_far(system, box, costs))


class Steps(unittest.TestCase):

    def test_ordinary_inputs(self):
        system, box = read_system("2 x + y >= 10"), ((None, (1, 1)), ((0, 1), (2, 1)))
        self.assertEqual(even_move_by_rows(system, box, {(0, 1): 1, (1, 1): 1}), ((2, 1), 0))
        self.assertEqual(even_move_by_rows(system, box, {(0, 1): 1, (1, 1): 0}), ((3, 1), 0))
        self.assertEqual(even_move_by_rows(weights={(1, 1): 3}, box=box, system=system), ((2, 1), 0))
        self.assertEqual(even_move_by_rows(system, free_box(system), {}), (ZERO, None))
        step, point, numbers = even_move(weights={(0, 1): 1, (1, 1): 1}, box=box, system=system)
        self.assertEqual((step, point, numbers), ((2, 1), ((3, 1), (4, 1)), ((1, 3),)))
        self.assertEqual(even_move(system, ((None, (5, 1)), (ZERO, ZERO)), {})[0], ZERO)

    def test_the_first_row(self):
        system = System(("x", "y"), (((0, 1), 4), ((1, 0), 4), ((1, 1), 8)))
        self.assertEqual(even_move_by_rows(system, ((None, ZERO), (None, ZERO)), {(0, 1): 2, (1, 1): 2}), ((2, 1), 0))
        system = System(("x", "y"), (((0, 1), 3), ((1, 0), 4), ((1, 1), 4)))
        self.assertEqual(even_move_by_rows(system, ((None, ZERO), (None, ZERO)), {(0, 1): 1, (1, 1): 1}), ((4, 1), 1))
        self.assertEqual(even_move_by_rows(system, ((None, ZERO), (None, ZERO)), {(0, 1): 2, (1, 1): 1}), ((3, 1), 0))

    def test_by_the_words(self):
        dice = Dice(535)
        seen = {"sums": 0, "rows": 0, "alike": 0, "other": 0}
        for _ in range(600):
            system, box, weights = any_case(dice, 4)
            fixed = tuple(end for end in box_ends(box) if weights.get(end, 0) == 0)
            loose = [end for end in box_ends(box) if end not in fixed]
            error = refusal_by_rows(system, box, fixed)
            self.assertEqual(raised(even_move_by_rows, system, box, weights), error)
            if error is None:
                seen["rows"] += 1
                step, number = by_rows = even_move_by_rows(system, box, {**weights, **STRANGE})
                moved = by_hand(box, {end: pair(weights[end] * frac(step)) for end in loose})
                self.assertEqual(barring(system, moved), ())
                self.assertEqual(number is None, not barring(system, box))
                if number is not None:
                    before = by_hand(box, {end: pair(weights[end] * frac(step) * Fraction(10 ** 6 - 1, 10 ** 6))
                                           for end in loose})
                    self.assertIn(number, barring(system, before))
                    needs = []
                    for row in system.rows:
                        if is_barred(row, box):
                            taken = sum(weights.get(end, 0) * abs(row[0][end[0]]) for end in used_ends(row))
                            needs.append((row[1] - top_of(row, box)) / taken)
                        else:
                            needs.append(Fraction(0))
                    self.assertEqual((frac(step), number), (max(needs), needs.index(max(needs))))
            self.assertEqual(raised(even_move, system, box, weights), refusal(system, box, fixed))
            if refusal(system, box, fixed) is None:
                seen["sums"] += 1
                step, point, numbers = even_move(system, box, {**weights, **STRANGE})
                moved = by_hand(box, {end: pair(weights[end] * frac(step)) for end in loose})
                self.assertTrue(is_in(point, moved) and all(is_kept(row, point) for row in system.rows))
                self.assertGreaterEqual(frac(step), 0)
                self.assertTrue(all(frac(one) >= 0 for one in numbers) and len(numbers) == len(system.rows))
                coefficients, bound = given(system, numbers)
                self.assertEqual(top_of((coefficients, bound), box), bound - frac(step))
                used = [(weights.get((at, int(one > 0)), 0), abs(one)) for at, one in enumerate(coefficients) if one]
                self.assertLessEqual(sum(weight * one for weight, one in used), 1)
                self.assertLessEqual(frac(by_rows[0]), frac(step))
                if not isinstance(court(system), Gap):
                    seen["alike"] += step[0] > 0
                    self.assertEqual(by_rows[0], step)
                else:
                    seen["other"] += by_rows[0] != step
        self.assertGreater(min(seen.values()), 10, seen)

    def test_six_names(self):
        dice = Dice(536)
        system = any_system(dice, 6, 60, 10 ** 6, -10 ** 6)
        box = any_box(dice, 6, 10 ** 3, 10)
        weights = {end: dice.between(1, 10 ** 3) for end in box_ends(box)}
        step, number = even_move_by_rows(system, box, weights)
        self.assertEqual(number is None, step == ZERO)


if __name__ == "__main__":
    unittest.main()
