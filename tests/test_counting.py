"""Point [69]: whole solutions counted, listed, and found by their index."""

import unittest
from itertools import product

from rowalone.bars import barring
from rowalone.counting import whole_at, whole_below, whole_count, whole_solutions
from rowalone.systems import System, system_of
from rowalone.texts import read_system
from rowalone.wholes import contrary, fraction_box, whole_told
from tests.helpers import Anything, Dice, NAMES, any_row, any_system, odd_values, raised
from tests.test_wholes import any_whole_box, keeps_whole, wholes_in, wrong_whole_boxes

LINE = System(("x", "y"), (((-2, -1), -1), ((2, 1), 1)))
STAIRS = read_system("x - y >= 0\ny >= 0\nx <= 9")
FREE = ((None, None), (None, None))
CALLS = ((whole_count, ()), (whole_solutions, ()), (whole_at, (0,)), (whole_below, ((0, 0),)))


def brute(system, box):
    return [point for point in wholes_in(box) if all(keeps_whole(row, point) for row in system.rows)]


class Errors(unittest.TestCase):

    def test_boxes_are_checked_first(self):
        for call, more in CALLS:
            for value, at in wrong_whole_boxes(2):
                self.assertEqual(raised(call, LINE, value, *more), ("InvalidBox", at), value)
        for value, at in wrong_whole_boxes(2)[:20]:
            self.assertEqual(raised(whole_at, LINE, value, "x"), ("InvalidBox", at))

    def test_endless(self):
        for call, more in CALLS + ((whole_at, (-1,)), (whole_at, (None,))):
            for box in (FREE, ((0, None), (0, 5)), ((None, 0), (None, None)), ((0, 5), (0, None)), ((0, 5), (None, 0))):
                self.assertEqual(raised(call, System(("x", "y"), ()), box, *more), ("Refused", "endless"))
            self.assertEqual(raised(call, LINE, ((None, None), (0, None)), *more), ("Refused", "endless"))
            # Endless comes before wide.
            self.assertEqual(raised(call, System(("x", "y"), ()), ((0, 10 ** 5), (0, None)), *more),
                             ("Refused", "endless"))

    def test_no_solutions_come_before(self):
        barred = ((1, None), (0, None))
        crossed = ((None, None), (0, 0))
        self.assertEqual(barring(LINE, fraction_box(barred)), (0,))
        self.assertEqual(whole_told(LINE, crossed)[0], (1, 0))
        both = System(("x", "y", "z"), (((-2, 0, 0), -1), ((2, 0, 0), 1)))
        for system, box in ((LINE, barred), (LINE, crossed), (both, ((None, None),) * 3), (both, ((0, 10 ** 6),) * 3)):
            self.assertEqual(whole_count(system, box), 0)
            self.assertEqual(whole_solutions(system, box), ())
            self.assertEqual(whole_below(system, box, (10 ** 9,) * len(box)), 0)
            for index in (0, 1, -1, None, "x"):
                self.assertEqual(raised(whole_at, system, box, index), ("InvalidNumber", "index"))

    def test_wide(self):
        free = System(("x", "y", "z"), ())
        for call, more in CALLS + ((whole_at, ("x",)),):
            more = more if call is not whole_below else ((0, 0, 0),)
            self.assertEqual(raised(call, free, ((1, 101), (1, 100), (0, 0)), *more), ("Refused", "wide"))
            self.assertEqual(raised(call, free, ((0, 0), (0, 10 ** 4), (0, 0)), *more), ("Refused", "wide"))
        self.assertEqual(whole_count(free, ((1, 100), (1, 100), (-10 ** 9, 10 ** 9))), 10 ** 4 * (2 * 10 ** 9 + 1))
        self.assertEqual(whole_count(free, ((0, 10 ** 4 - 1), (7, 7), (0, 0))), 10 ** 4)
        # Of one unknown alone there may be as many as one likes.
        self.assertEqual(whole_count(System(("x",), ()), ((-10 ** 9, 10 ** 9),)), 2 * 10 ** 9 + 1)
        # The ends that count are those that rows tell.
        self.assertEqual(whole_count(read_system("x <= 3\nx >= 1\ny <= 3"), ((None, None), (1, None))), 9)

    def test_many(self):
        system = System(("x",), ())
        self.assertEqual(whole_solutions(system, ((1, 1000),)), tuple((value,) for value in range(1, 1001)))
        self.assertEqual(raised(whole_solutions, system, ((1, 1001),)), ("Refused", "many"))
        self.assertEqual(whole_count(system, ((1, 1001),)), 1001)
        self.assertEqual(whole_at(system, ((1, 1001),), 1000), (1001,))
        two = System(("x", "y"), ())
        self.assertEqual(len(whole_solutions(two, ((1, 20), (1, 50)))), 1000)
        self.assertEqual(raised(whole_solutions, two, ((1, 13), (1, 77))), ("Refused", "many"))

    def test_indices(self):
        box = ((0, 2), (0, 2))
        for value in odd_values() + [-1, 6, True, False, 1.0, "1", (1,), None, Anything(), 10 ** 30]:
            if isinstance(value, bool) or value not in (0, 1):
                self.assertEqual(raised(whole_at, STAIRS, box, value), ("InvalidNumber", "index"), value)
        self.assertEqual([whole_at(index=index, box=box, system=STAIRS) for index in range(6)],
                         [(0, 0), (1, 0), (1, 1), (2, 0), (2, 1), (2, 2)])


class Counting(unittest.TestCase):

    def test_ordinary_inputs(self):
        box = ((0, 2), (0, 2))
        self.assertEqual(whole_count(box=box, system=STAIRS), 6)
        self.assertEqual(whole_solutions(box=box, system=STAIRS), ((0, 0), (1, 0), (1, 1), (2, 0), (2, 1), (2, 2)))
        for point, many in (((0, 0), 0), ((0, 1), 1), ((1, 0), 1), ((1, 1), 2), ((1, 2), 3), ((2, 9), 6), ((2, -5), 3),
                            ((9, 0), 6), ((-9, 0), 0), ((2, 2), 5), ((2, 3), 6)):
            self.assertEqual(whole_below(point=point, box=box, system=STAIRS), many)
        self.assertEqual(whole_solutions(LINE, ((-1, 1), (None, None))), ((-1, 3), (0, 1), (1, -1)))
        self.assertEqual(whole_count(System(("x",), ()), ((4, 4),)), 1)

    def test_by_the_words(self):
        dice = Dice(601)
        seen = {"none": 0, "some": 0, "endless": 0}
        for _ in range(500):
            size = dice.between(1, 3)
            system = any_system(dice, size, dice.between(0, 5), 3, 3)
            box = any_whole_box(dice, size, 3, dice.pick((7, 10)))
            told = whole_told(system, box)
            none = bool(barring(system, fraction_box(box))) or any(
                low is not None and high is not None and low > high for low, high in told)
            if not none and None in [end for ends in told for end in ends]:
                seen["endless"] += 1
                self.assertEqual(raised(whole_count, system, box), ("Refused", "endless"))
                continue
            points = [] if none else brute(system, told)
            seen["some" if points else "none"] += 1
            if none and None not in [end for ends in box for end in ends]:
                self.assertEqual(brute(system, box), [])
            self.assertEqual(whole_count(system, box), len(points))
            self.assertEqual(whole_solutions(system, box), tuple(points))
            for index in {0, len(points) // 2, len(points) - 1, len(points)}:
                if 0 <= index < len(points):
                    self.assertEqual(whole_at(system, box, index), points[index])
                else:
                    self.assertEqual(raised(whole_at, system, box, index), ("InvalidNumber", "index"))
            point = tuple(dice.between(-5, 5) for _ in range(size))
            for some in [point] + points[:2] + points[-2:]:
                self.assertEqual(whole_below(system, box, some), sum(one < some for one in points))
            row = any_row(dice, size, 2, 2)
            parts = [system_of(system.names, system.rows + (one,)) for one in (row, contrary(row))]
            self.assertEqual(sum(whole_count(part, box) for part in parts), len(points))
        self.assertGreater(min(seen.values()), 40, seen)

    def test_long_lines(self):
        system = read_system("a + 3 b - 2 c >= 0\na + b + c <= 1000000")
        box = ((0, 3), (0, 3), (-10 ** 9, 10 ** 9))
        total = sum((a + 3 * b) // 2 + 10 ** 9 + 1 for a, b in product(range(4), repeat=2))
        self.assertEqual(whole_count(system, box), total)
        self.assertEqual(whole_at(system, box, total - 1), (3, 3, 6))
        self.assertEqual(whole_at(system, box, 10 ** 9), (0, 0, 0))
        self.assertEqual(whole_at(system, box, 10 ** 9 + 1), (0, 1, -10 ** 9))
        self.assertEqual(whole_below(system, box, (0, 1, -10 ** 9 + 5)), 10 ** 9 + 6)

    def test_six_names(self):
        system = System(NAMES, tuple(sorted(((0,) * at + (1, -1) + (0,) * (4 - at), 0) for at in range(5))))
        box = ((0, 3),) * 6
        self.assertEqual(whole_count(system, box), 84)
        found = whole_solutions(system, box)
        self.assertEqual(found, tuple(sorted(point for point in product(range(4), repeat=6)
                                             if list(point) == sorted(point, reverse=True))))
        self.assertEqual(whole_below(system, box, found[50]), 50)


if __name__ == "__main__":
    unittest.main()
