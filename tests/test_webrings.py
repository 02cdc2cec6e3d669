"""Point [83]: what the rings of a web allow."""

import unittest

from rowalone.bars import told, told_by
from rowalone.boxes import check_box, placed
from rowalone.papers import check_combination, check_paper, point_or_paper
from rowalone.systems import System
from rowalone.texts import read_system
from rowalone.webrings import endless_example, inexact_example, unfound_example
from rowalone.webs import web, web_ring
from tests.helpers import Dice, NAMES, any_system, frac, raised

CALLS = (inexact_example, unfound_example, endless_example)
RINGS = ("x + y >= 1\nx - y >= 1", "x - y >= 1\ny - z >= 1\nz - x >= 0", "x + y + z >= 0\n2 x - y + z >= 5",
         "a + b + c + d + e + f >= 0\na - b + c + d + e + f >= 1\na >= 0", "x + y >= 0\nx + 2 y >= 1\nx >= 0\ny >= 3",
         "a + b >= 0\nb + c >= 0\nc + d >= 0\nd + e >= 0\ne + f >= 0\nf + a >= 0",
         "a + b + d >= 0\nb + c >= 0\nc + d >= 0\nd + e >= 0\ne + f + b >= 0\nf + a >= 0\nc >= 1")


def after_pass(system, box):
    """The told ends, None if a low is above a high."""
    ends = told(system, box)
    return None if any(None not in pair and frac(pair[0]) > frac(pair[1]) for pair in ends) else ends


def any_with_ring(dice):
    while True:
        system = any_system(dice, dice.between(2, 6), dice.between(2, 9), 2, 3)
        if web_ring(system) is not None:
            return system


class WebRings(unittest.TestCase):

    def systems(self):
        dice = Dice(351)
        # Sixty rows that all have all of six unknowns, and each in a row alone.
        great = System(NAMES, tuple(sorted([((1, 1, 1, 1, 1, number), 0) for number in range(1, 55)] +
                                           [(tuple(int(at == one) for at in range(6)), 5) for one in range(6)])))
        self.assertEqual(len(great.rows), 60)
        return [read_system(text) for text in RINGS] + [great] + [any_with_ring(dice) for _ in range(150)]

    def check_web(self, system, other):
        self.assertEqual(other.names, system.names)
        self.assertEqual(len(other.rows), len(system.rows))
        self.assertEqual(sorted(web(other)), sorted(web(system)))

    def test_no_ring(self):
        dice = Dice(352)
        texts = ("x + y >= 0\ny + z >= 0", "x >= 0\nx <= 5\nx + y >= 1", "a + b + c >= 0\nc + d + e >= 1\ne + f >= 1")
        systems = [System(("x",), ()), System(NAMES, ())] + [read_system(text) for text in texts]
        systems += [system for system in (any_system(dice, 4, 2, 1, 1) for _ in range(50)) if web_ring(system) is None]
        self.assertGreater(len(systems), 10)
        for system in systems:
            for call in CALLS:
                self.assertEqual(raised(call, system), ("Refused", "none"))

    def test_inexact(self):
        for system in self.systems():
            other, box, end, paper = inexact_example(system)
            self.check_web(system, other)
            self.assertIsNone(check_box(other, box))
            self.assertTrue(all(None not in pair for pair in box))
            self.assertEqual(told(other, box), box)
            at, side = end
            self.assertIn(side, (0, 1))
            self.assertIsNone(check_paper(other, placed(box, at, box[at][side]), paper))
            # The box itself has solutions, so the exact range ends before this end.
            self.assertEqual(point_or_paper(other, box)[0], "point")

    def test_unfound(self):
        for system in self.systems():
            other, box, paper = unfound_example(system)
            self.check_web(system, other)
            self.assertIsNone(check_combination(other, paper))
            self.assertIsNone(check_paper(other, box, paper))
            self.check_never(other, box)
            for _ in range(12):
                box = after_pass(other, box)
                self.assertIsNotNone(box)

    def check_never(self, system, box):
        """No pass tells a high of an unknown without one, and none changes the ends of the others."""
        for row in system.rows:
            for at, number in enumerate(row[0]):
                others = [place for place, one in enumerate(row[0]) if one != 0 and place != at]
                blocked = any(row[0][place] > 0 and box[place][1] is None for place in others)
                if number != 0 and not blocked:
                    if box[at][1] is None:
                        self.assertGreater(number, 0)
                    else:
                        self.assertTrue(all(box[place][1] is not None for place in others))
                        self.assertEqual(told_by(row, box, at), box[at])

    def test_endless(self):
        for system in self.systems():
            other, box = endless_example(system)
            self.check_web(system, other)
            self.assertIsNone(check_box(other, box))
            self.assertTrue(all(None not in pair for pair in box))
            self.assertEqual(point_or_paper(other, box)[0], "point")
            # Passes go on to change some ends by a factor, again and again, with a resting box inside.
            boxes = [box]
            for _ in range(40):
                boxes.append(after_pass(other, boxes[-1]))
                self.assertNotEqual(boxes[-1], boxes[-2])
            inner = tuple(((0, 1), (0, 1)) for _ in box)
            self.assertEqual(after_pass(other, inner), inner)
            for (low, high), (_, before) in zip(boxes[-1], boxes[-1 - len(box)]):
                self.assertEqual(low, (0, 1))
                self.assertTrue(high == before == (0, 1) or 0 < frac(high) <= frac(before) / 2)

    def test_the_web_alone_decides(self):
        for system in self.systems()[:40]:
            other = System(system.names, tuple(sorted((row[0], row[1] * 6 + 1) for row in system.rows)))
            for call in CALLS:
                self.assertIsNone(raised(call, other))

    def test_rows_in_any_order(self):
        # The paper uses the rows of a ring and no others, also where the order of the rows changes.
        other, box, paper = unfound_example(system=read_system(RINGS[5]))
        self.assertEqual(paper, ((1, 1),) * 6)
        other, box, paper = unfound_example(read_system(RINGS[3]))
        self.assertEqual(sorted(paper), [(0, 1), (1, 1), (1, 1)])
        self.assertEqual(len(other.rows[paper.index((0, 1))][0]), 6)
        self.assertEqual(sum(other.rows[paper.index((0, 1))][0]), 1)


if __name__ == "__main__":
    unittest.main()
