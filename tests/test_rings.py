"""Point [63], and what [62] says of `least_rises`: rings, heights and rises."""

import unittest
from fractions import Fraction
from itertools import product

from rowalone.court import is_single
from rowalone.nets import Net, joined_parts, lacking
from rowalone.papers import is_sum_of, point_or_paper
from rowalone.patterns import outer_rows
from rowalone.rings import (all_rings, heights_or_ring, is_barring_ring, least_rises, ring_or_cut, ring_parts)
from rowalone.systems import System
from tests.helpers import (Anything, Dice, NAMES, any_box, any_net, changed, frac, is_barred, is_in, no_fractions,
                           odd_values, pair, raised, without, wrong_boxes)

ZERO = (0, 1)
FREE = (None, None)
NET = Net(("a", "b", "c"), ((0, 1), (1, 2), (0, 2)), ((None, None), (0, 0), (3, None)))
LOOP = Net(("x",), ((0, 0),), ((0, 0),))
TWO = Net(("x", "y"), ((0, 1), (0, 1)), ((0, 0), (0, 0)))


def rings_by_walks(net):
    """All rings, by walks that come to no node twice."""
    found = set()
    for start in range(len(net.needs)):
        walks = [(start, (start,), (0,) * len(net.lines))]
        while walks:
            node, seen, ways = walks.pop()
            for line, (tail, head) in enumerate(net.lines):
                for way, one, other in ((1, tail, head), (-1, head, tail)):
                    if one == node and ways[line] == 0:
                        after = changed(ways, line, way)
                        if other == start:
                            found.add(after)
                        elif other not in seen:
                            walks.append((other, seen + (other,), after))
    return tuple(sorted(found))


def rises_of(net, heights):
    return tuple(pair(frac(heights[head]) - frac(heights[tail])) for tail, head in net.lines)


def any_circulation(dice, net):
    """A point whose gains are 0."""
    point = [Fraction(0)] * len(net.lines)
    for ring in all_rings(net):
        if dice.chance(1, 2):
            part = Fraction(dice.between(0, 4), dice.between(1, 3))
            point = [value + way * part for value, way in zip(point, ring)]
    return tuple(map(pair, point))


class AllRings(unittest.TestCase):

    def test_examples(self):
        self.assertEqual((all_rings(NET), ring_or_cut(NET, (1, 0, 1), 1)),
                         (((-1, -1, 1), (1, 1, -1)), ('cut', (2,))))

    def test_edges(self):
        self.assertEqual(all_rings(LOOP), ((-1,), (1,)))
        self.assertEqual(all_rings(TWO), ((-1, 1), (1, -1)))
        self.assertEqual(all_rings(Net(("x", "y"), ((0, 1), (1, 0)), ((0, 0),) * 7)), ((-1, -1), (1, 1)))
        self.assertEqual(all_rings(Net(("x", "y"), ((0, 1), (1, 2)), ((0, 0),) * 3)), ())
        self.assertEqual(all_rings(net=Net(("x", "y"), ((3, 3), (3, 3)), ((0, 0),) * 4)),
                         ((-1, 0), (0, -1), (0, 1), (1, 0)))
        # A loop and a ring through the same node are two rings.
        self.assertEqual(len(all_rings(Net(("x", "y", "z"), ((0, 0), (0, 1), (1, 0)), ((0, 0),) * 2))), 4)
        self.assertEqual(len(all_rings(Net(NAMES, ((0, 1),) * 6, ((0, 0),) * 2))), 30)

    def test_against_walks(self):
        dice = Dice(421)
        seen = 0
        for _ in range(300):
            net = any_net(dice)
            self.assertEqual(all_rings(net), rings_by_walks(net))
            seen += len(all_rings(net)) > 2
        self.assertGreater(seen, 60)


class RingParts(unittest.TestCase):

    def test_points_are_checked_first(self):
        for value in odd_values() + [(ZERO,) * 2, (ZERO,) * 4, [ZERO] * 3]:
            if not isinstance(value, tuple) or len(value) != 3:
                self.assertEqual(raised(ring_parts, NET, value), ("InvalidPoint", -1), value)
        for item in odd_values() + no_fractions():
            for at in range(3):
                self.assertEqual(raised(ring_parts, NET, changed((ZERO,) * 3, at, item)), ("InvalidPoint", at), item)
        self.assertEqual(raised(ring_parts, NET, ((1, 1), None, [])), ("InvalidPoint", 1))

    def test_gains(self):
        self.assertEqual(raised(ring_parts, NET, ((1, 1), (1, 1), (1, 1))), ("Refused", "gain"))
        self.assertEqual(raised(ring_parts, NET, ((1, 2), (1, 2), (-1, 3))), ("Refused", "gain"))
        self.assertEqual(ring_parts(NET, ((1, 2), (1, 2), (-1, 2))), (((1, 1, -1), (1, 2)),))
        self.assertEqual(ring_parts(point=(ZERO,) * 3, net=NET), ())
        self.assertEqual(ring_parts(LOOP, ((-7, 3),)), (((-1,), (7, 3)),))

    def test_parts(self):
        dice = Dice(422)
        several = 0
        for _ in range(300):
            net = any_net(dice)
            point = any_circulation(dice, net)
            parts = ring_parts(net, point)
            several += len(parts) > 1
            rings = all_rings(net)
            total = [Fraction(0)] * len(point)
            for ring, part in parts:
                self.assertIn(ring, rings)
                self.assertGreater(part[0], 0)
                self.assertTrue(all(way == 0 or way * value[0] > 0 for way, value in zip(ring, point)))
                total = [value + way * frac(part) for value, way in zip(total, ring)]
            self.assertEqual(tuple(map(pair, total)), point)
            self.assertLessEqual(len(parts), sum(value != ZERO for value in point))
        self.assertGreater(several, 50)


class Heights(unittest.TestCase):

    def test_boxes_are_checked_first(self):
        for value, at in wrong_boxes(3):
            self.assertEqual(raised(heights_or_ring, NET, value), ("InvalidBox", at), value)
            self.assertEqual(raised(is_barring_ring, NET, value, None), ("InvalidBox", at), value)

    def test_ordinary_inputs(self):
        box = (((1, 1), None), ((1, 1), None), (None, (1, 1)))
        self.assertEqual(heights_or_ring(NET, box), ("ring", (-1, -1, 1)))
        word, heights = heights_or_ring(box=box[:2] + ((None, (2, 1)),), net=NET)
        self.assertEqual((word, rises_of(NET, heights)), ("heights", ((1, 1), (1, 1), (2, 1))))

    def bars(self, ring, box):
        return is_barred((ring, 0), box)

    def test_lines_from_a_node_to_itself(self):
        self.assertEqual(heights_or_ring(LOOP, (((1, 1), None),)), ("ring", (-1,)))
        self.assertEqual(heights_or_ring(LOOP, ((None, (-1, 2)),)), ("ring", (1,)))
        for box in ((ZERO, None), (None, ZERO), ((-1, 2), (1, 3)), FREE):
            word, heights = heights_or_ring(LOOP, (box,))
            self.assertEqual((word, len(heights)), ("heights", 1))

    def test_exactly_one_of_both(self):
        dice = Dice(423)
        seen = {"heights": 0, "ring": 0}
        for _ in range(400):
            net = any_net(dice)
            size = len(net.names)
            wholes = dice.chance(1, 2)
            box = any_box(dice, size, dice.pick((3, 10 ** 9)), dice.between(3, 10))
            if wholes:
                box = tuple(tuple(None if end is None else (end[0] // end[1], 1) for end in ends) for ends in box)
            word, found = heights_or_ring(net, box)
            seen[word] += 1
            barring = [ring for ring in all_rings(net) if self.bars(ring, box)]
            if word == "heights":
                self.assertEqual((barring, len(found)), ([], len(net.needs)))
                self.assertTrue(is_in(rises_of(net, found), box))
                self.assertTrue(not wholes or all(bottom == 1 for _, bottom in found))
            else:
                self.assertIn(found, barring)
                self.assertIs(is_barring_ring(net, box, found), True)
        self.assertGreater(min(seen.values()), 80)

    def test_is_barring_ring(self):
        dice = Dice(424)
        seen = 0
        for _ in range(60):
            net = any_net(dice, 4)
            box = any_box(dice, len(net.names), 3, 9)
            rings = all_rings(net)
            for ways in product((-2, -1, 0, 1), repeat=len(net.names)):
                right = ways in rings and self.bars(ways, box)
                seen += right
                self.assertIs(is_barring_ring(net, box, ways), right)
        self.assertGreater(seen, 15)

    def test_values_that_are_no_rings(self):
        box = (((1, 1), None), ((1, 1), None), (None, (1, 1)))
        right = (-1, -1, 1)
        self.assertIs(is_barring_ring(value=right, box=box, net=NET), True)
        wrong = [right[:2], right + (0,), list(right), tuple(float(way) for way in right),
                 tuple(True if way == 1 else way for way in right), tuple((way,) for way in right), (0, 0, 0),
                 tuple(-way for way in right), tuple(2 * way for way in right), Anything(), (Anything(),) * 3]
        for value in odd_values() + wrong:
            self.assertIs(is_barring_ring(NET, box, value), False, value)


class Rises(unittest.TestCase):

    def test_rows(self):
        self.assertEqual(least_rises(NET), System(NET.names, (((-1, -1, 1), 0), ((1, 1, -1), 0))))
        self.assertEqual(least_rises(net=LOOP), System(("x",), (((-1,), 0), ((1,), 0))))
        self.assertEqual(least_rises(Net(("x",), ((0, 1),), ((0, 0),) * 2)), System(("x",), ()))
        self.assertEqual(len(least_rises(Net(NAMES, ((0, 1),) * 6, ((0, 0),) * 2)).rows), 30)

    def test_least_single_systems_of_the_rises(self):
        dice = Dice(425)
        for _ in range(60):
            net = any_net(dice, 5)
            system = least_rises(net)
            self.assertTrue(is_single(system))
            for row in system.rows:
                self.assertFalse(is_sum_of([other for other in system.rows if other != row], row))
            for _ in range(5):
                heights = [(dice.between(-5, 5), 1) for _ in net.needs]
                for row in system.rows:
                    self.assertEqual(sum(n * frac(v) for n, v in zip(row[0], rises_of(net, heights))), 0)
                box = any_box(dice, len(net.names), 3, 8)
                self.assertEqual(point_or_paper(system, box)[0] == "point", heights_or_ring(net, box)[0] == "heights")
            signs = tuple(dice.pick((-1, 1)) for _ in net.names)
            found = tuple(row for row in system.rows if all(n * s >= 0 for n, s in zip(row[0], signs)))
            self.assertEqual(outer_rows(system, signs), found)

    def test_one_line_less(self):
        dice = Dice(426)
        for _ in range(150):
            net = any_net(dice)
            if len(net.names) > 1:
                at = dice.below(len(net.names))
                rows = tuple((without(row[0], at), 0) for row in least_rises(net).rows if row[0][at] == 0)
                other = lacking(net, at)
                self.assertEqual(least_rises(other), System(other.names, rows))


class RingOrCut(unittest.TestCase):

    def is_right_ring(self, net, ways, at, ring):
        used = all(way == 0 or line == at or ways[line] in (way, 2) for line, way in enumerate(ring))
        return ring in all_rings(net) and ring[at] == 1 and used

    def is_right_cut(self, net, ways, at, some):
        tail, head = net.lines[at]
        if joined_parts(net, some) != (some,):
            return False
        whole = [part for part in joined_parts(net, tuple(range(len(net.needs)))) if head in part][0]
        rest = tuple(node for node in whole if node not in some)
        if head not in some or tail not in rest or joined_parts(net, rest) != (rest,):
            return False
        for line, (one, other) in enumerate(net.lines):
            if line != at and ((one in some and other in rest and ways[line] in (1, 2)) or
                               (other in some and one in rest and ways[line] in (-1, 2))):
                return False
        return True

    def test_exactly_one_of_both(self):
        dice = Dice(427)
        seen = {"ring": 0, "cut": 0}
        for _ in range(600):
            net = any_net(dice)
            ways = tuple(dice.pick((-1, 0, 1, 2)) for _ in net.names)
            at = dice.below(len(net.names))
            word, found = ring_or_cut(at=at, ways=ways, net=net)
            seen[word] += 1
            rings = [ring for ring in all_rings(net) if self.is_right_ring(net, ways, at, ring)]
            if word == "ring":
                self.assertIn(found, rings)
            else:
                self.assertEqual(rings, [])
                self.assertTrue(self.is_right_cut(net, ways, at, found))
            # For the line itself it does not matter.
            for way in (-1, 0, 1, 2):
                self.assertEqual(ring_or_cut(net, changed(ways, at, way), at)[0], word)
        self.assertGreater(min(seen.values()), 150)

    def test_edges(self):
        self.assertEqual(ring_or_cut(LOOP, (0,), 0), ("ring", (1,)))
        self.assertEqual(ring_or_cut(TWO, (0, -1), 0), ("ring", (1, -1)))
        self.assertEqual(ring_or_cut(TWO, (0, 1), 0), ("cut", (1,)))
        self.assertEqual(ring_or_cut(TWO, (2, 0), 1), ("ring", (-1, 1)))
        # Node 3 hangs on node 1 and is on its side of the cut; nodes 4 to 6 have no line.
        net = Net(("x", "y", "z"), ((0, 1), (3, 1), (0, 2)), ((0, 0),) * 7)
        self.assertEqual(ring_or_cut(net, (0, 0, 0), 0), ("cut", (1, 3)))
        self.assertEqual(ring_or_cut(net, (0, 1, 0), 0), ("cut", (1, 3)))
        self.assertEqual(ring_or_cut(net, (0, 0, 0), 2), ("cut", (2,)))


if __name__ == "__main__":
    unittest.main()
