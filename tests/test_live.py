"""Point [91]: live systems."""

import unittest
from itertools import permutations

from rowalone.bars import bars_box, told
from rowalone.boxes import box_ends, free_box
from rowalone.chosen import nearest_solution
from rowalone.closing import least_single
from rowalone.learning import learned_row, taught, unlearned
from rowalone.live import Live
from rowalone.papers import point_or_paper
from rowalone.ranges import least_sum
from rowalone.systems import System, system_of
from rowalone.texts import read_system
from tests.helpers import (Anything, Dice, NAMES, any_box, any_fraction, any_row, any_system, frac, is_barred,
                           no_fractions, odd_values, pair, raised, wrong_boxes)

ZERO = (0, 1)
ONE = (1, 1)
CHAIN = System(("x", "y", "z"), (((0, 1, -1), 0), ((1, -1, 0), 0)))
EMPTY = ((None, ZERO), (None, None), (ONE, None))
FREE = ((None, None),) * 3
THIRD = ((1, 0, -1), 0)


def has_solution(system):
    return point_or_paper(system, free_box(system))[0] == "point"


def seen(live):
    """All that a Live tells of itself."""
    return (live.given(), live.ends_now(), live.learned(), live.changes(), live.steps_back(),
            None if raised(live.present) else live.present())


class Twin:
    """A Live by the words, that keeps all states."""

    def __init__(self, system, box):
        self.states, self.known = [(system, box)], []

    def learned(self, system):
        if not has_solution(system):
            return ()
        return tuple(sorted(row for row in self.known
                            if row in least_single(system).rows and row not in system.rows))

    def steps_back(self):
        for many, (system, box) in enumerate(self.states[::-1]):
            if not any(is_barred(row, box) for row in system.rows + self.learned(system)):
                return many
        return None


class Examples(unittest.TestCase):

    def test_examples(self):
        live = Live(CHAIN, ((None, ZERO), (None, None), (None, None)))
        self.assertEqual((live.put_end("z", 0, ONE), live.steps_back(), live.learn(), live.steps_back()),
                         (None, 0, THIRD, 1))
        self.assertEqual((live.strike_row(0), live.learned(), live.undo(), live.learned()),
                         (((0, 1, -1), 0), (), None, (THIRD,)))

    def test_boxes_are_checked(self):
        for value, at in wrong_boxes(3):
            self.assertEqual(raised(Live, CHAIN, value), ("InvalidBox", at), value)

    def test_methods_alone(self):
        live = Live(box=FREE, system=CHAIN)
        names = [name for name in dir(live) if not name.startswith("_")]
        self.assertEqual(names, ["changes", "ends_now", "given", "learn", "learned", "present", "put_end", "put_row",
                                 "solve", "steps_back", "strike_row", "undo"])
        self.assertTrue(all(name in vars(Live) for name in names))

    def test_a_new_one(self):
        live = Live(CHAIN, EMPTY)
        self.assertEqual(seen(live), (CHAIN, EMPTY, (), 0, 0, CHAIN))


class Ends(unittest.TestCase):

    def test_ordinary_inputs(self):
        live = Live(CHAIN, FREE)
        self.assertIsNone(live.put_end("x", 0, (1, 2)))
        self.assertIsNone(live.put_end(value=(1, 2), side=1, name="x"))
        self.assertEqual(live.ends_now(), (((1, 2), (1, 2)), (None, None), (None, None)))
        live.put_end("x", 0, None)
        live.put_end("z", 1, (-3, 1))
        self.assertEqual(live.ends_now(), ((None, (1, 2)), (None, None), (None, (-3, 1))))
        # The same end again, or none instead of none, is a change as well.
        live.put_end("z", 1, (-3, 1))
        live.put_end("y", 1, None)
        self.assertEqual(live.changes(), 6)
        for many in range(5, -1, -1):
            self.assertIsNone(live.undo())
            self.assertEqual(live.changes(), many)
        self.assertEqual(live.ends_now(), FREE)

    def test_errors_in_their_order(self):
        live = Live(CHAIN, ((None, ZERO), (ONE, (2, 1)), (None, None)))
        before = seen(live)
        for value in odd_values() + ["q", "xy", ("x",), 0, True, Anything()]:
            if value != "x":
                self.assertEqual(raised(live.put_end, value, 2, 1.5), ("Refused", "name"), value)
            if isinstance(value, bool) or value not in (0, 1):
                self.assertEqual(raised(live.put_end, "x", value, 1.5), ("InvalidNumber", "side"), value)
            if value is not None:
                self.assertEqual(raised(live.put_end, "x", 0, value), ("InvalidNumber", "value"), value)
        for value in no_fractions():
            self.assertEqual(raised(live.put_end, "x", 1, value), ("InvalidNumber", "value"), value)
        for side in (-1, 2, True, False, 1.0, "1", (1,)):
            self.assertEqual(raised(live.put_end, "y", side, (9, 1)), ("InvalidNumber", "side"))
        for name, side, value in (("x", 0, (1, 9)), ("y", 0, (5, 2)), ("y", 1, (1, 2)), ("y", 1, (-1, 1))):
            self.assertEqual(raised(live.put_end, name, side, value), ("Refused", "crossed"))
        self.assertEqual(seen(live), before)
        self.assertEqual(raised(live.undo), ("Refused", "undo"))
        for name, side, value in (("x", 0, ZERO), ("y", 0, (2, 1)), ("y", 1, (2, 1)), ("y", 0, None)):
            self.assertIsNone(live.put_end(name, side, value))


class Rows(unittest.TestCase):

    def test_ordinary_inputs(self):
        live = Live(CHAIN, FREE)
        self.assertEqual(live.put_row(row=THIRD), 2)
        self.assertEqual(live.given().rows, CHAIN.rows + (THIRD,))
        self.assertEqual(live.put_row(((5, 0, 0), 3)), 3)
        self.assertEqual(live.put_row(((-5, 0, 0), 3)), 0)
        self.assertEqual(live.strike_row(number=3), THIRD)
        self.assertEqual(live.strike_row(0), ((-5, 0, 0), 3))
        self.assertEqual(live.given().rows, CHAIN.rows + (((5, 0, 0), 3),))
        self.assertEqual(live.changes(), 5)
        for rows in (4, 5, 4, 3, 2):
            live.undo()
            self.assertEqual(len(live.given().rows), rows)
        self.assertEqual(live.given(), CHAIN)

    def test_rows_that_are_none(self):
        live = Live(CHAIN, FREE)
        before = seen(live)
        wrong = [((True, 0, 0), 0), ((1, 0, 0), True), ((0, 0, 0), 0), ((2, 0, 0), 2), ((1, 0), 0), ((1, 0, 0, 0), 0),
                 [(1, 0, 0), 0], ([1, 0, 0], 0), ((1, 0, 0), 0, 0), ((1.0, 0, 0), 0), ((1, 0, 0), (0, 1))]
        for value in odd_values() + wrong + list(CHAIN.rows):
            self.assertEqual(raised(live.put_row, value), ("Refused", "row"), value)
        self.assertEqual(seen(live), before)

    def test_sixty_rows(self):
        rows = tuple(((1, number), 0) for number in range(60))
        live = Live(System(("x", "y"), rows), ((None, None),) * 2)
        before = seen(live)
        for row, error in ((rows[3], ("Refused", "row")), (None, ("Refused", "row")), (((1, 60), 0), ("Refused", "wide"))):
            self.assertEqual(raised(live.put_row, row), error)
        self.assertEqual(seen(live), before)
        self.assertEqual(live.strike_row(59), rows[59])
        self.assertEqual(live.put_row(((1, 70), 0)), 59)

    def test_numbers(self):
        live = Live(CHAIN, FREE)
        before = seen(live)
        for value in odd_values() + [-1, 2, True, False, 1.0, "0", (0,), None, 10 ** 30]:
            if isinstance(value, bool) or value not in (0, 1):
                self.assertEqual(raised(live.strike_row, value), ("InvalidNumber", "number"), value)
        self.assertEqual(seen(live), before)
        live.strike_row(1)
        self.assertEqual(raised(live.strike_row, 1), ("InvalidNumber", "number"))
        live.strike_row(0)
        self.assertEqual(raised(live.strike_row, 0), ("InvalidNumber", "number"))
        self.assertEqual(live.given(), System(("x", "y", "z"), ()))

    def test_struck_and_put_again(self):
        live = Live(CHAIN, EMPTY)
        self.assertEqual(live.learn(), THIRD)
        row = live.strike_row(1)
        self.assertEqual(live.learned(), ())
        self.assertEqual(live.put_row(row), 1)
        self.assertEqual(live.learned(), (THIRD,))
        # A learned row that is given is not among the learned ones.
        live.put_row(THIRD)
        self.assertEqual((live.learned(), len(live.given().rows)), ((), 3))
        self.assertEqual(live.present(), live.given())
        live.strike_row(live.given().rows.index(row))
        self.assertEqual(live.learned(), ())
        live.undo()
        live.undo()
        self.assertEqual(live.learned(), (THIRD,))

    def test_no_longer_outer(self):
        # A sharper row makes the learned one follow; it comes back when that is struck.
        live = Live(CHAIN, EMPTY)
        live.learn()
        live.put_row(((1, 0, -1), 2))
        self.assertEqual(live.learned(), ())
        live.undo()
        self.assertEqual(live.learned(), (THIRD,))
        live.put_row(((1, 0, -1), -2))
        self.assertEqual(live.learned(), (THIRD,))
        self.assertEqual(len(live.present().rows), 4)

    def test_systems_that_lose_their_solutions(self):
        live = Live(CHAIN, EMPTY)
        live.learn()
        live.put_row(((-1, 1, 0), 1))
        self.assertEqual(live.learned(), ())
        self.assertEqual(live.present(), live.given())
        self.assertEqual(raised(live.learn), ("Refused", "none"))
        self.assertEqual(raised(live.solve, (0, 1, 2), (ZERO,) * 3), ("Refused", "none"))
        self.assertEqual(live.steps_back(), 0)
        live.undo()
        self.assertEqual(live.learned(), (THIRD,))
        self.assertIsNone(live.steps_back())
        live.put_row(((-1, 1, 0), 1))
        live.strike_row(live.given().rows.index(((1, -1, 0), 0)))
        self.assertTrue(has_solution(live.given()))
        self.assertEqual(live.learned(), ())


class Learning(unittest.TestCase):

    def test_what_is_learned_is_not_taken_back(self):
        live = Live(CHAIN, ((None, ZERO), (None, None), (None, None)))
        live.put_end("z", 0, ONE)
        live.learn()
        self.assertEqual(live.changes(), 1)
        live.undo()
        self.assertEqual((live.learned(), live.steps_back()), ((THIRD,), 0))
        self.assertEqual(raised(live.undo), ("Refused", "undo"))
        self.assertIsNone(live.learn())
        self.assertEqual(live.present().rows, CHAIN.rows + (THIRD,))
        # A second one on the same system knows nothing of it.
        other = Live(CHAIN, EMPTY)
        self.assertEqual((other.learned(), other.learn(), other.learn()), ((), THIRD, None))

    def test_solve(self):
        live = Live(CHAIN, ((None, ZERO), (None, None), (None, None)))
        self.assertEqual(live.solve((0, 2, 1), (ZERO, ONE, (2, 1))), (ZERO, ZERO, ZERO))
        self.assertEqual(live.learned(), (THIRD,))
        self.assertEqual(live.solve(wishes=(ZERO, ONE, (2, 1)), order=(0, 2, 1)), (ZERO, ZERO, ZERO))
        self.assertEqual((live.changes(), live.learned()), (0, (THIRD,)))
        live.put_end("z", 0, ONE)
        self.assertIsNone(live.solve((0, 2, 1), (ZERO,) * 3))

    def test_wide(self):
        # 58 loose rows and the chain: what is learned is one too many only for `present` and `solve`.
        rows = CHAIN.rows + tuple(((1, 1, number), -10 ** 6) for number in range(58))
        live = Live(system_of(("x", "y", "z"), rows), EMPTY)
        self.assertEqual(raised(live.solve, (0, 1, 2), (ZERO,) * 3), ("Refused", "wide"))
        self.assertEqual(live.learned(), ())
        self.assertEqual(live.learn(), THIRD)
        self.assertEqual(live.learned(), (THIRD,))
        for call in (live.present, live.learn):
            self.assertEqual(raised(call), ("Refused", "wide"))
        self.assertEqual(raised(live.solve, (0, 1, 2), (ZERO,) * 3), ("Refused", "wide"))
        self.assertIsNone(live.steps_back())
        live.strike_row(live.given().rows.index(((1, 1, 7), -10 ** 6)))
        self.assertEqual(len(live.present().rows), 60)
        self.assertIsNone(live.learn())
        self.assertIsNone(live.solve((0, 1, 2), (ZERO,) * 3))

    def test_a_search_that_raises_learns_nothing(self):
        # Two rows are needed, and there is room for one.
        system = read_system("a - b >= 0\nb - c >= 0\nc - d >= 0")
        rows = system.rows + tuple(((1, 1, 1, number), -10 ** 6) for number in range(56))
        box = ((None, ZERO), (None, None), (None, None), (ONE, None))
        live = Live(system_of(system.names, rows), box)
        found = taught(system, box, (1, 0, 2, 3), (ZERO,) * 4)[0]
        if len(found) > 1:
            self.assertEqual(raised(live.solve, (1, 0, 2, 3), (ZERO,) * 4), ("Refused", "wide"))
            self.assertEqual(live.learned(), ())

    def test_steps_back(self):
        live = Live(CHAIN, FREE)
        live.put_end("x", 1, ZERO)
        live.put_end("z", 0, ONE)
        live.put_end("y", 0, (-1, 1))
        self.assertEqual(live.steps_back(), 0)
        live.learn()
        self.assertEqual(live.steps_back(), 2)
        live.put_end("y", 0, ONE)
        self.assertEqual(live.steps_back(), 3)
        live.put_end("y", 0, None)
        live.put_row(((1, 0, 0), 5))
        self.assertEqual(live.steps_back(), 5)
        live.strike_row(live.given().rows.index(((1, 0, 0), 5)))
        # With a row of the chain struck the learned row is gone.
        live.strike_row(1)
        self.assertEqual(live.steps_back(), 0)
        live.undo()
        self.assertEqual(live.steps_back(), 6)
        other = Live(CHAIN, ((None, ZERO), (ONE, None), (None, None)))
        other.put_end("z", 0, ZERO)
        self.assertIsNone(other.steps_back())

    def test_a_learned_row_bars_exactly_beyond_what_was_told(self):
        dice = Dice(651)
        checked = 0
        while checked < 150:
            system = any_system(dice, dice.between(2, 3), dice.between(1, 4), 2, 2)
            if not has_solution(system):
                continue
            box = any_box(dice, len(system.names), 3, 6)
            live = Live(system, box)
            while live.learn() is not None:
                pass
            if any(bars_box(row, box) for row in live.present().rows):
                continue
            at = dice.below(len(system.names))
            low, high = told(live.present(), box)[at]
            value = any_fraction(dice, 6)
            side = dice.below(2)
            old = box[at][side]
            sharper = old is None or (frac(value) >= frac(old) if side == 0 else frac(value) <= frac(old))
            if sharper and raised(live.put_end, system.names[at], side, value) is None:
                checked += 1
                end = high if side == 0 else low
                beyond = end is not None and (frac(value) > frac(end) if side == 0 else frac(value) < frac(end))
                self.assertEqual(any(bars_box(row, live.ends_now()) for row in live.present().rows), beyond)

    def test_a_learned_row_stays_if_all_solutions_keep_it(self):
        dice = Dice(652)
        kept = gone = 0
        while kept < 15 or gone < 15:
            system = any_system(dice, 3, dice.between(3, 5), 1, 1)
            if not has_solution(system) or not unlearned(system):
                continue
            live = Live(system, free_box(system))
            for _ in range(6):
                box = any_box(dice, 3, 2, 9)
                for at, (low, high) in enumerate(box):
                    for side, value in ((0, None), (1, None), (0, low), (1, high)):
                        live.put_end(system.names[at], side, value)
                live.learn()
            before = live.learned()
            number = dice.below(len(system.rows))
            live.strike_row(number)
            for row in before:
                least = least_sum(live.given(), free_box(system), row[0])
                stays = least is not None and frac(least[0]) >= row[1]
                kept, gone = kept + stays, gone + (not stays)
                self.assertEqual(row in live.learned(), stays)


class Twins(unittest.TestCase):

    def step(self, dice, live, twin):
        """One call of both; what is raised changes nothing."""
        (system, box), size = twin.states[-1], len(twin.states[-1][0].names)
        kind = dice.below(9)
        if kind < 3:
            at, side = dice.below(size), dice.below(2)
            value = any_fraction(dice, 3) if dice.chance(3, 4) else None
            ends = (value, box[at][1]) if side == 0 else (box[at][0], value)
            if None not in ends and frac(ends[0]) > frac(ends[1]):
                self.assertEqual(raised(live.put_end, system.names[at], side, value), ("Refused", "crossed"))
            else:
                self.assertIsNone(live.put_end(system.names[at], side, value))
                twin.states.append((system, box[:at] + (ends,) + box[at + 1:]))
        elif kind == 3:
            row = any_row(dice, size, 1, 1)
            if row in system.rows:
                self.assertEqual(raised(live.put_row, row), ("Refused", "row"))
            else:
                rows = tuple(sorted(system.rows + (row,)))
                self.assertEqual(live.put_row(row), rows.index(row))
                twin.states.append((System(system.names, rows), box))
        elif kind == 4 and system.rows:
            number = dice.below(len(system.rows))
            self.assertEqual(live.strike_row(number), system.rows[number])
            twin.states.append((System(system.names, system.rows[:number] + system.rows[number + 1:]), box))
        elif kind == 5 and len(twin.states) == 1:
            self.assertEqual(raised(live.undo), ("Refused", "undo"))
        elif kind == 5:
            self.assertIsNone(live.undo())
            twin.states.pop()
        elif kind > 5:
            self.search(dice, live, twin, kind == 6)

    def search(self, dice, live, twin, by_learning):
        (system, box), size = twin.states[-1], len(twin.states[-1][0].names)
        present = System(system.names, tuple(sorted(system.rows + twin.learned(system))))
        if not has_solution(system):
            self.assertEqual(raised(live.learn), ("Refused", "none"))
            self.assertEqual(raised(live.solve, tuple(range(size)), (ZERO,) * size), ("Refused", "none"))
        elif by_learning:
            row = learned_row(present, box)
            self.assertEqual(live.learn(), row)
            twin.known += [row] if row is not None and row not in twin.known else []
        else:
            order = dice.pick(list(permutations(range(size))))
            wishes = tuple(any_fraction(dice, 3) for _ in range(size))
            rows, point = taught(present, box, order, wishes)
            self.assertEqual(live.solve(order, wishes), point)
            if point is not None:
                self.assertEqual(point, nearest_solution(system, box, order, wishes))
            twin.known += [row for row in rows if row not in twin.known]

    def test_calls_in_any_sequence(self):
        dice = Dice(653)
        learned = lost = back = 0
        for _ in range(60):
            while True:
                system = any_system(dice, dice.between(2, 3), dice.between(2, 4), 1, 1)
                if has_solution(system) and unlearned(system):
                    break
            box = any_box(dice, len(system.names), 2, 7)
            live, twin = Live(system, box), Twin(system, box)
            for _ in range(30):
                self.step(dice, live, twin)
                given, ends = twin.states[-1]
                self.assertEqual((live.given(), live.ends_now()), (given, ends))
                self.assertEqual(live.changes(), len(twin.states) - 1)
                rows = twin.learned(given)
                self.assertEqual(live.learned(), rows)
                self.assertEqual(live.present().rows, tuple(sorted(given.rows + rows)))
                self.assertEqual(live.steps_back(), twin.steps_back())
                learned += len(rows) > 0
                lost += len(rows) < len(twin.known)
                back += (twin.steps_back() or 0) > 1
        self.assertGreater(min(learned, lost, back), 30, (learned, lost, back))

    def test_six_names(self):
        road = System(NAMES, tuple(sorted(((0,) * at + (1, -1) + (0,) * (4 - at), 0) for at in range(5))))
        live = Live(road, free_box(road))
        self.assertEqual(live.solve((0, 5, 1, 4, 2, 3), (ZERO, (5, 1), ONE, ZERO, (2, 1), (3, 1))), (ZERO,) * 6)
        live.put_end("a", 1, ZERO)
        live.put_end("f", 0, ONE)
        self.assertIsNone(live.solve(tuple(range(6)), (ZERO,) * 6))
        self.assertGreater(len(live.learned()), 0)
        self.assertEqual(live.steps_back(), 1)
        self.assertEqual(box_ends(live.ends_now()), ((0, 1), (5, 0)))
        self.assertEqual(pair(frac(ONE)), ONE)


if __name__ == "__main__":
    unittest.main()
