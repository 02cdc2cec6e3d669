"""Point [82]: webs, their rings, and sweeps."""

import unittest
from itertools import permutations

from rowalone.bars import narrowed, told
from rowalone.boxes import check_box, placed
from rowalone.fractions import less, plus, times
from rowalone.papers import point_or_paper
from rowalone.systems import System, system_of
from rowalone.webs import is_web_ring, sweep, web, web_ring
from tests.helpers import (Anything, Dice, NAMES, any_box, any_fraction, any_system, odd_values, raised, wide_rows)

CHAIN = System(("x", "y", "z"), (((0, 1, -1), 0), ((1, -1, 0), 0)))
RING = System(("x", "y", "z"), (((0, 1, -1), 0), ((1, -1, 0), 0), ((1, 0, 1), 0)))


def has_ring(system):
    """Whether the unknowns and the rows, as nodes, have a ring: more pairs than a forest has."""
    lots = web(system)
    parts = {("unknown", at): ("unknown", at) for at in range(len(system.names))}
    for row, lot in enumerate(lots):
        parts["row", row] = ("row", row)
        for at in lot:
            one, other = parts["unknown", at], parts["row", row]
            if one == other:
                return True
            parts = {key: one if part == other else part for key, part in parts.items()}
    return False


def forest(dice, size, limit):
    """A system whose unknowns and rows have no ring, with several rows of one unknown."""
    rows = []
    parts = [[at] for at in range(size)]
    for _ in range(dice.between(1, 5)):
        some = [parts.pop(dice.below(len(parts))) for _ in range(min(len(parts), dice.between(1, 3)))]
        numbers = [0] * size
        for part in some:
            numbers[dice.pick(part)] = dice.pick((-1, 1)) * dice.between(1, limit)
        rows.append((tuple(numbers), dice.between(-4, 4)))
        parts.append([at for part in some for at in part])
    return system_of(NAMES[:size], tuple(rows))


def run(system, box, numbers):
    """The box narrowed by rows, one after another."""
    for number in numbers:
        if box is not None:
            box = narrowed(system.rows[number], box)
    return box


def passes(system, box, most):
    """What passes lead to, None for no box."""
    for _ in range(most):
        ends = told(system, box)
        if any(low is not None and high is not None and less(high, low) for low, high in ends):
            return None
        box = ends
    return box


class Webs(unittest.TestCase):

    def test_lots(self):
        self.assertEqual(web(CHAIN), ((1, 2), (0, 1)))
        self.assertEqual(web(System(("x",), ())), ())
        self.assertEqual(web(System(NAMES, (((0, 0, 0, 0, 0, -3), 1), ((1, 2, 3, -4, 5, 6), 0)))),
                         ((5,), (0, 1, 2, 3, 4, 5)))
        self.assertEqual(web(system=System(("x",), (((1,), 0), ((2,), 1)))), ((0,), (0,)))

    def test_rings_and_none(self):
        self.assertIsNone(web_ring(CHAIN))
        self.assertIsNone(web_ring(System(("x",), ())))
        self.assertIsNone(web_ring(System(("x",), (((-1,), 0), ((1,), 0), ((2,), 1)))))
        self.assertTrue(is_web_ring(RING, web_ring(RING)))
        self.assertEqual(len(web_ring(RING)), 3)

    def test_two_rows_with_two_unknowns_in_common(self):
        system = System(("x", "y", "z"), (((0, 1, 1), 0), ((1, 1, 1), 0)))
        self.assertIn(web_ring(system), (((1, 0), (2, 1)), ((2, 0), (1, 1)), ((1, 1), (2, 0)), ((2, 1), (1, 0))))

    def test_unknowns_that_are_not_neighbours_in_a_row(self):
        # The first and the last unknown of the second row are joined by the first one alone.
        system = System(("x", "y", "z"), (((1, 0, 1), 0), ((1, 1, 1), 0)))
        self.assertTrue(is_web_ring(system, web_ring(system)))

    def test_a_ring_of_all_six_unknowns(self):
        rows = []
        for at in range(6):
            numbers = [0] * 6
            numbers[at] = 1
            numbers[(at + 1) % 6] = -1
            rows.append((tuple(numbers), 0))
        ring = web_ring(system_of(NAMES, tuple(rows)))
        self.assertEqual(len(ring), 6)
        self.assertTrue(is_web_ring(system_of(NAMES, tuple(rows)), ring))
        self.assertIsNone(web_ring(system_of(NAMES, tuple(rows[:5]))))

    def test_sixty_rows(self):
        system = System(("x", "y"), wide_rows(60))
        self.assertTrue(is_web_ring(system, web_ring(system)))

    def test_some_ring_exactly_if_there_is_one(self):
        dice = Dice(31)
        seen = {True: 0, False: 0}
        for _ in range(400):
            system = any_system(dice, dice.between(1, 6), dice.between(0, 4), 1, 2)
            ring = web_ring(system)
            seen[ring is None] += 1
            self.assertEqual(ring is not None, has_ring(system))
            if ring is not None:
                self.assertIs(is_web_ring(system, ring), True)
        self.assertGreater(min(seen.values()), 50)
        for _ in range(100):
            self.assertIsNone(web_ring(forest(dice, dice.between(1, 6), 3)))


class Rings(unittest.TestCase):

    def test_all_small_tuples(self):
        lots = web(RING)
        for many in (2, 3):
            for unknowns in permutations(range(3), many):
                for rows in permutations(range(3), many):
                    value = tuple(zip(unknowns, rows))
                    expected = all(unknowns[k] in lots[rows[k]] and unknowns[(k + 1) % many] in lots[rows[k]]
                                   for k in range(many))
                    self.assertIs(is_web_ring(RING, value), expected)

    def test_what_is_no_ring(self):
        ring = web_ring(RING)
        self.assertTrue(is_web_ring(value=ring, system=RING))
        self.assertTrue(is_web_ring(RING, ring[1:] + ring[:1]))
        wrong = [ring[:1], ring[:2], ring + ring[:1], list(ring), ring[::-1], tuple(list(pair) for pair in ring),
                 tuple(pair + (0,) for pair in ring), tuple(pair[:1] for pair in ring), (), None, ((0, 0), (0, 0)),
                 ((0, 1), (1, 1), (2, 0)), ((1, 0), (2, 2), (1, 1))]
        for value in wrong + odd_values():
            self.assertIs(is_web_ring(RING, value), False, value)

    def test_wrong_numbers(self):
        system = System(("x", "y"), (((1, 1), 0), ((1, 2), 0)))
        self.assertTrue(is_web_ring(system, ((0, 0), (1, 1))))
        for value in (((False, 0), (1, 1)), ((0, False), (1, 1)), ((0, 0), (True, 1)), ((0, 0), (1, True)),
                      ((0, 0), (1, 2)), ((0, 0), (2, 1)), ((0, 0), (-1, 1)), ((0, 0), (1, -1)), ((0.0, 0), (1, 1)),
                      ((0, 0), (1, 10 ** 30)), ((0, 0), (1, None)), ((0, 0), Anything()), ((0, 0), None),
                      ((0, 0), ([], [])), ((0, 0), 5), ("ab", "cd")):
            self.assertIs(is_web_ring(system, value), False, value)

    def test_no_unknown_and_no_row_twice(self):
        system = System(("x", "y", "z"), (((0, 1, 1), 0), ((1, 1, 0), 0), ((1, 2, 0), 0), ((1, 3, 0), 0), ((1, 4, 0), 0),
                                          ((1, 5, 5), 0)))
        self.assertTrue(is_web_ring(system, ((0, 1), (1, 2))))
        # Each row has its own unknown and the next one, but unknowns, rows or both occur twice.
        self.assertIs(is_web_ring(system, ((0, 1), (1, 2), (0, 3), (1, 4))), False)
        self.assertIs(is_web_ring(system, ((0, 5), (1, 0), (2, 5))), False)
        self.assertIs(is_web_ring(system, ((0, 1), (1, 1))), False)
        self.assertIs(is_web_ring(system, ((0, 1), (1, 2), (0, 1), (1, 2))), False)
        self.assertTrue(is_web_ring(system, ((0, 1), (1, 0), (2, 5))))

    def test_systems_without_rows(self):
        for value in odd_values() + [((0, 0), (1, 1))]:
            self.assertIs(is_web_ring(System(("x", "y"), ()), value), False)


class Sweeps(unittest.TestCase):

    def test_a_ring_is_refused(self):
        self.assertEqual(raised(sweep, RING), ("Refused", "ring"))
        self.assertEqual(raised(sweep, System(("x", "y"), wide_rows(60))), ("Refused", "ring"))

    def test_no_rows(self):
        self.assertEqual(sweep(System(("x",), ())), ())
        self.assertEqual(sweep(system=System(NAMES, ())), ())

    def test_each_row_at_most_twice(self):
        dice = Dice(32)
        for _ in range(100):
            system = forest(dice, dice.between(1, 6), 3)
            numbers = sweep(system)
            self.assertIsInstance(numbers, tuple)
            for number in numbers:
                self.assertIn(number, range(len(system.rows)))
                self.assertLessEqual(numbers.count(number), 2)

    def test_long_chains_in_any_order(self):
        # What one end of a chain of all unknowns leaves is told to the other end, and back.
        dice = Dice(34)
        for _ in range(60):
            order, left = [], list(range(6))
            while left:
                order.append(left.pop(dice.below(len(left))))
            rows = []
            for one, other in zip(order, order[1:]):
                numbers = [0] * 6
                numbers[one], numbers[other] = 1, -1
                rows += [(tuple(numbers), 1)]
            system = system_of(NAMES, tuple(rows))
            for at, side in ((0, 1), (5, 0), (2, 0), (3, 1)):
                box = [(None, None)] * 6
                box[order[at]] = ((None, (0, 1)), ((0, 1), None))[1 - side]
                expected = list(box)
                # Each unknown is at least the next one plus 1.
                for near, value in enumerate(order):
                    if side == 0 and near <= at:
                        expected[value] = ((at - near, 1), None)
                    if side == 1 and near >= at:
                        expected[value] = (None, (at - near, 1))
                self.assertEqual(run(system, tuple(box), sweep(system)), tuple(expected))

    def test_the_run_of_a_sweep_and_passes_without_a_ring(self):
        dice = Dice(33)
        seen = {True: 0, False: 0}
        for _ in range(250):
            size = dice.between(1, 6)
            system = forest(dice, size, 3)
            box = any_box(dice, size, 4, dice.between(2, 9))
            rest = passes(system, box, size)
            seen[rest is None] += 1
            self.assertEqual(run(system, box, sweep(system)), rest)
            self.assertEqual(point_or_paper(system, box)[0] == "paper", rest is None)
            if rest is not None:
                # The box rests, and each fraction between its ends occurs in a solution.
                check_box(system, rest)
                self.assertEqual(told(system, rest), rest)
                for at, (low, high) in enumerate(rest):
                    values = [value for value in (low, high) if value is not None]
                    if len(values) == 2:
                        values.append(times(plus(low, high), (1, 2)))
                    elif values:
                        values.append(plus(values[0], (9, 1) if high is None else (-9, 1)))
                    else:
                        values.append(any_fraction(dice, 20))
                    for value in values:
                        self.assertEqual(point_or_paper(system, placed(rest, at, value))[0], "point")
        self.assertGreater(min(seen.values()), 30)


if __name__ == "__main__":
    unittest.main()
