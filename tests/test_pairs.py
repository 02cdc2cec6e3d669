"""Point [56]: systems of pair rows, their least single systems, and turnings."""

import unittest
from itertools import combinations, permutations, product

from rowalone.closing import least_single
from rowalone.court import is_single
from rowalone.differences import arc_of
from rowalone.pairs import closed_pairs, is_turning, turning
from rowalone.papers import point_or_paper
from rowalone.systems import System, system_of, turned
from rowalone.texts import read_system, show_system
from tests.helpers import Anything, Dice, NAMES, odd_values, raised

BOTH = read_system("x + y >= 0\nx - y >= 1")
NO_PAIRS = [read_system(text) for text in ("x + 2 y >= 0", "x + y + z >= 0", "x >= 0\n2 x - 3 y >= 1",
                                           "x - y - z >= 1\nx - y >= 0", "2 x - y >= 0")]


def any_pairs(dice, size, many, limit=3, sizes=(1, 1, 2, 3)):
    """A system of pair rows."""
    rows = []
    for _ in range(many):
        numbers, number = [0] * size, dice.pick(sizes)
        for at in {dice.below(size), dice.below(size)}:
            numbers[at] = dice.pick((number, -number))
        rows.append((tuple(numbers), dice.between(-limit, limit)))
    return system_of(NAMES[:size], tuple(rows))


def has_solution(system):
    return point_or_paper(system, ((None, None),) * len(system.names))[0] == "point"


def is_turn(system, names):
    """By the words: whether all rows become difference rows if the unknowns are turned."""
    for name in names:
        system = turned(system, name)
    return all(raised(arc_of, row) is None for row in system.rows)


def is_ring(system, rows):
    """By the words, over all sequences of unknowns."""
    if len(rows) < 2 or len(set(rows)) < len(rows):
        return False
    lots = [{at for at, number in enumerate(system.rows[row][0]) if number} for row in rows]
    equal = 0
    for row in rows:
        used = [number for number in system.rows[row][0] if number]
        equal += len(used) == 2 and used[0] == used[1]
    return equal % 2 == 1 and any(
        all(lot == {one, other} for lot, one, other in zip(lots, some, some[1:] + some[:1]))
        for some in permutations(range(len(system.names)), len(rows)))


def all_turnings(system):
    names = [("turn", lot) for many in range(len(system.names) + 1) for lot in combinations(system.names, many)
             if is_turn(system, lot)]
    rings = [("ring", rows) for many in range(2, len(system.names) + 1)
             for rows in permutations(range(len(system.rows)), many) if is_ring(system, rows)]
    return names, rings


class Pairs(unittest.TestCase):

    def test_examples(self):
        self.assertEqual((show_system(closed_pairs(BOTH)), turning(BOTH)[0]), ("x - y >= 1\nx + y >= 0\n2 x >= 1", "ring"))

    def test_other_rows(self):
        for system in NO_PAIRS:
            for call, more in ((closed_pairs, ()), (turning, ()), (is_turning, (None,)), (is_turning, (("turn", ()),))):
                self.assertEqual(raised(call, system, *more), ("Refused", "pair"))
        # Before anything else is looked at.
        self.assertEqual(raised(closed_pairs, read_system("x >= 1\nx <= 0\n2 y - x >= 0")), ("Refused", "pair"))

    def test_closed_pairs(self):
        dice = Dice(541)
        checked = none = 0
        while checked < 100:
            system = any_pairs(dice, dice.between(1, 4), dice.between(0, 6))
            if not has_solution(system):
                none += 1
                self.assertEqual(raised(closed_pairs, system), ("Refused", "none"))
                continue
            checked += 1
            closed = closed_pairs(system=system)
            self.assertEqual(closed, least_single(system))
            self.assertIsNone(raised(turning, closed))
            self.assertTrue(is_single(closed))
        self.assertGreater(none, 10)

    def test_whole_coefficients_stay_without_a_ring(self):
        dice = Dice(542)
        checked = halves = 0
        while checked < 60:
            system = any_pairs(dice, dice.between(2, 4), dice.between(1, 6), 3, (1,))
            if has_solution(system):
                closed = closed_pairs(system)
                small = all(abs(number) <= 1 for row in closed.rows for number in row[0])
                if turning(system)[0] == "turn":
                    checked += 1
                    self.assertTrue(small)
                    self.assertEqual(turning(closed)[0], "turn")
                halves += not small
        self.assertGreater(halves, 2)

    def test_many_rows(self):
        # All sums and differences of six unknowns up to 2, and the highs and lows that they make.
        rows = []
        for one, other in combinations(range(6), 2):
            for signs in product((1, -1), repeat=2):
                numbers = [0] * 6
                numbers[one], numbers[other] = signs
                rows.append((tuple(numbers), -2 - (one + other) % 2))
        self.assertEqual(raised(closed_pairs, system_of(NAMES, tuple(rows))), ("Refused", "wide"))
        self.assertEqual(raised(closed_pairs, system_of(NAMES[:5], tuple((row[0][:5], row[1]) for row in rows))), None)
        # Sixty rows: without those of three pairs of unknowns, which would be needless, there are 12 fewer.
        apart = [{0, 1}, {2, 3}, {4, 5}]
        for some, many in ((apart, 60), (apart[:2], None)):
            left = [(row[0], -2) for row in rows if {at for at, number in enumerate(row[0]) if number} not in some]
            if many is None:
                self.assertEqual(raised(closed_pairs, system_of(NAMES, tuple(left))), ("Refused", "wide"))
            else:
                self.assertEqual(len(closed_pairs(system_of(NAMES, tuple(left))).rows), many)

    def test_sixty_rows(self):
        # The rows of two unknowns are needless.
        highs = [((0,) * at + (sign,) + (0,) * (5 - at), -1) for at in range(6) for sign in (1, -1)]
        rows = []
        for one, other in combinations(range(6), 2):
            for signs in product((1, -1), repeat=2):
                numbers = [0] * 6
                numbers[one], numbers[other] = signs
                rows.append((tuple(numbers), -3))
        system = system_of(NAMES, tuple(rows[:48] + highs))
        self.assertEqual(len(system.rows), 60)
        self.assertEqual(closed_pairs(system), System(NAMES, tuple(sorted(highs))))

    def test_edges(self):
        self.assertEqual(closed_pairs(System(("x",), ())), System(("x",), ()))
        self.assertEqual(turning(System(NAMES, ())), ("turn", ()))
        self.assertEqual(closed_pairs(read_system("5 x >= 3")), read_system("5 x >= 3"))


class Turnings(unittest.TestCase):

    def test_exactly_one_exists(self):
        dice = Dice(543)
        seen = {"turn": 0, "ring": 0, "long": 0}
        for _ in range(500):
            system = any_pairs(dice, dice.between(1, 4), dice.between(0, 6), 1, (1, 1, 2))
            names, rings = all_turnings(system)
            found = turning(system=system)
            seen[found[0]] += 1
            seen["long"] += found[0] == "ring" and len(found[1]) > 2
            self.assertEqual(bool(names), not rings)
            self.assertIn(found, names + rings)
            self.assertIs(is_turning(system=system, value=found), True)
            for value in names + rings:
                self.assertIs(is_turning(system, value), True)
        self.assertGreater(min(seen.values()), 10, seen)

    def test_is_turning_by_the_words(self):
        dice = Dice(544)
        for _ in range(60):
            system = any_pairs(dice, dice.between(2, 3), dice.between(1, 5), 1, (1, 1, 2))
            names, rings = all_turnings(system)
            for many in range(len(system.names) + 1):
                for lot in permutations(system.names, many):
                    self.assertIs(is_turning(system, ("turn", lot)), ("turn", lot) in names)
            for many in range(5):
                for rows in product(range(len(system.rows)), repeat=many):
                    if many < 4 or dice.chance(1, 9):
                        self.assertIs(is_turning(system, ("ring", rows)), ("ring", rows) in rings)

    def test_any_value(self):
        chain = read_system("x - y >= 0\ny + z >= 0")
        for system in (BOTH, chain):
            wrong = [("turn", None), ("turn", ["z"]), ("turn", "z"), ("turn", ("q",)), ("turn", (0,)), ("turn", ("z", "z")),
                     ["turn", ("z",)], ("turn", ("z",), ()), ("turn",), ("ring", [0, 1]), ("ring", (False, True)),
                     ("ring", (0, 1.0)), ("ring", (0, 2)), ("ring", (0, -1)), ("ring", ()), ("ring", (0,)),
                     ("other", (0, 1)), (b"ring", (0, 1)), (("ring",), (0, 1)), ("ring", (0, None)), ("turn", ("z", 0)),
                     ("turn", ("", "z")), ("ring", (0, 0)), ("ring", (0, 1, 0)), (Anything(), (0, 1))]
            for value in odd_values() + wrong:
                self.assertIs(is_turning(system, value), False, value)
                self.assertIs(is_turning(system, ("turn", value)), False)
                self.assertIs(is_turning(system, ("ring", value)), False)
                self.assertIs(is_turning(system, (value, (0, 1))), False)
                self.assertIs(is_turning(system, ("ring", (0, value))), value == 1 and system is BOTH
                              and type(value) is int)
        self.assertIs(is_turning(chain, ("turn", ("z",))), True)
        self.assertIs(is_turning(chain, ("turn", ("x", "y"))), True)
        self.assertIs(is_turning(chain, ("turn", ("y", "x"))), False)
        self.assertIs(is_turning(BOTH, ("ring", (0, 1))), True)
        self.assertIs(is_turning(BOTH, ("ring", (1, 0))), True)

    def test_rows_of_one_unknown(self):
        system = read_system("x >= 0\n-x >= -5\nx - y >= 0\ny <= 7")
        self.assertEqual(turning(system), ("turn", ()))
        for rows in product(range(4), repeat=2):
            self.assertIs(is_turning(system, ("ring", rows)), False)
        for number in range(4):
            self.assertIs(is_turning(system, ("ring", (number,))), False)

    def test_six_unknowns(self):
        even = System(NAMES, tuple(sorted(
            [((0,) * at + (1, -1) + (0,) * (4 - at), 0) for at in range(5)] + [((1, 0, 0, 0, 0, 1), 0)])))
        word, rows = turning(even)
        self.assertEqual((word, sorted(rows)), ("ring", list(range(6))))
        self.assertTrue(is_turning(even, (word, rows)))
        self.assertTrue(is_turning(even, (word, rows[2:] + rows[:2])))
        self.assertTrue(is_turning(even, (word, rows[::-1])))
        self.assertFalse(is_turning(even, (word, rows[1:2] + rows[:1] + rows[2:])))
        odd = System(NAMES, tuple(sorted(
            [((0,) * at + (1, -1) + (0,) * (4 - at), 0) for at in range(5)] + [((1, 0, 0, 0, 0, -1), 0)])))
        self.assertEqual(turning(odd), ("turn", ()))
        self.assertFalse(is_turning(odd, (word, rows)))


if __name__ == "__main__":
    unittest.main()
