"""Points [57] to [59] and what [62] says of `lacking` and `shrunk`: nets, cuts and prices."""

import unittest
from fractions import Fraction

from rowalone.bars import holds
from rowalone.nets import (Net, cut_row, flow_system, gains, is_flow, joined_parts, lacking, price_parts, price_row,
                           shrunk)
from rowalone.systems import System, system_of
from tests.helpers import (Anything, Dice, NAMES, any_box, any_fraction, any_net, changed, frac, is_in,
                           no_fractions, odd_values, pair, points_on_grid, raised)

ABC = ("a", "b", "c")
LINES = ((0, 1), (1, 2), (0, 2))
NEEDS = ((None, None), (0, 0), (3, None))
NET = Net(ABC, LINES, NEEDS)
FREE = ((None, None),) * 3


def any_lot(dice, nodes):
    return tuple(node for node in range(nodes) if dice.chance(1, 2))


def gains_of(net, point):
    found = [Fraction(0)] * len(net.needs)
    for value, (tail, head) in zip(point, net.lines):
        found[head] += frac(value)
        found[tail] -= frac(value)
    return found


def is_right_flow(net, point):
    for gain, (low, high) in zip(gains_of(net, point), net.needs):
        if (low is not None and gain < low) or (high is not None and gain > high):
            return False
    return True


class Nets(unittest.TestCase):

    def test_attributes(self):
        self.assertEqual((NET.names, NET.lines, NET.needs), (ABC, LINES, NEEDS))
        net = Net(needs=((None, None),), lines=((0, 0),), names=("x",))
        self.assertEqual((net.names, net.lines, net.needs), (("x",), ((0, 0),), ((None, None),)))

    def test_the_greatest_nets(self):
        net = Net(NAMES, ((0, 6), (6, 0), (3, 3), (1, 2), (1, 2), (5, 4)), ((-10 ** 5, 10 ** 5),) * 7)
        self.assertEqual(len(net.needs), 7)
        self.assertEqual(len(Net(("x",), ((6, 6),), ((0, 0),) * 7).needs), 7)

    def test_names(self):
        for names in odd_values() + [(), ("b", "a"), ("a", "a"), ("A",), NAMES + ("g",), ["a"], ("a", 1), (True,)]:
            self.assertEqual(raised(Net, names, LINES, NEEDS), ("Refused", "names"), names)

    def test_lines(self):
        for lines in odd_values() + [LINES[:2], LINES + LINES, list(LINES), ()]:
            self.assertEqual(raised(Net, ABC, lines, NEEDS), ("Refused", "lines"), lines)
        wrong = [(0,), (0, 1, 2), [0, 1], (-1, 0), (0, -1), (True, 0), (0, False), (0.0, 1), (None, 1), ("0", "1"), 5,
                 (0, (1,)), (0, None), Anything()]
        for item in wrong + odd_values():
            for at in range(3):
                self.assertEqual(raised(Net, ABC, changed(LINES, at, item), NEEDS), ("Refused", "lines"), item)

    def test_needs(self):
        for needs in odd_values() + [(), ((0, 0),) * 8, list(NEEDS)]:
            self.assertEqual(raised(Net, ABC, LINES, needs), ("Refused", "needs"), needs)
        wrong = [(0,), (0, 1, 2), [0, 1], (1, 0), (True, None), (None, False), (0, True), (0.0, 1), (None, 0.5), 5,
                 ((0, 1), None), (None, (0, 1)), ("", None), Anything()]
        for item in wrong + odd_values():
            for at in range(3):
                self.assertEqual(raised(Net, ABC, LINES, changed(NEEDS, at, item)), ("Refused", "needs"), item)
        for item in ((0, 0), (-1, 0), (None, 5), (5, None), (None, None), (-10 ** 5, 10 ** 5)):
            self.assertEqual(Net(ABC, LINES, changed(NEEDS, 1, item)).needs[1], item)

    def test_nodes(self):
        self.assertEqual(raised(Net, ABC, LINES, NEEDS[:2]), ("Refused", "nodes"))
        self.assertEqual(raised(Net, ABC, ((0, 3), (0, 1), (0, 1)), NEEDS), ("Refused", "nodes"))
        self.assertEqual(raised(Net, ("a",), ((1, 0),), ((0, 0),)), ("Refused", "nodes"))
        self.assertEqual(raised(Net, ("a",), ((0, 10 ** 30),), ((0, 0),) * 7), ("Refused", "nodes"))

    def test_the_first_error_is_raised(self):
        self.assertEqual(raised(Net, (), (), ()), ("Refused", "names"))
        self.assertEqual(raised(Net, ABC, (), ()), ("Refused", "lines"))
        self.assertEqual(raised(Net, ABC, ((0, 9), (0, 9), None), ()), ("Refused", "lines"))
        self.assertEqual(raised(Net, ABC, ((0, 9), (0, 9), (0, 9)), ()), ("Refused", "needs"))
        self.assertEqual(raised(Net, ABC, ((0, 9), (0, 9), (0, 9)), ((1, 0),)), ("Refused", "needs"))
        self.assertEqual(raised(Net, ABC, ((0, 9), (0, 9), (0, 9)), NEEDS), ("Refused", "nodes"))


class Flows(unittest.TestCase):

    def test_gains(self):
        self.assertEqual(gains(NET, ((1, 2), (1, 3), (-1, 1))), ((1, 2), (1, 6), (-2, 3)))
        self.assertEqual(gains(Net(("x",), ((0, 0),), ((0, 0), (None, None))), ((7, 2),)), ((0, 1), (0, 1)))
        dice = Dice(71)
        for _ in range(100):
            net = any_net(dice)
            point = tuple(any_fraction(dice, 9) for _ in net.names)
            self.assertEqual(gains(net=net, point=point), tuple(map(pair, gains_of(net, point))))

    def test_points_and_boxes_are_checked(self):
        for value in odd_values() + [((0, 1),) * 2, ((0, 1),) * 4, [(0, 1)] * 3]:
            if not isinstance(value, tuple) or len(value) != 3:
                self.assertEqual(raised(gains, NET, value), ("InvalidPoint", -1), value)
                self.assertEqual(raised(is_flow, NET, value, None), ("InvalidBox", -1), value)
        for item in odd_values() + no_fractions():
            self.assertEqual(raised(gains, NET, changed(((0, 1),) * 3, 2, item)), ("InvalidPoint", 2), item)
            self.assertEqual(raised(is_flow, NET, changed(FREE, 2, item), None), ("InvalidBox", 2), item)

    def test_flows(self):
        flow = ((1, 1), (1, 1), (2, 1))
        self.assertIs(is_flow(NET, FREE, flow), True)
        self.assertIs(is_flow(NET, FREE, ((1, 1), (1, 1), (3, 2))), False)
        self.assertIs(is_flow(NET, FREE, ((1, 1), (2, 1), (2, 1))), False)
        self.assertIs(is_flow(NET, (((1, 1), (1, 1)), (None, None), (None, (2, 1))), flow), True)
        self.assertIs(is_flow(NET, (((2, 1), None), (None, None), (None, (2, 1))), flow), False)
        for value in odd_values() + [flow[:2], flow + flow, list(flow), changed(flow, 0, (True, 1)),
                                     changed(flow, 2, (4, 2)), changed(flow, 1, 1)]:
            self.assertIs(is_flow(value=value, box=FREE, net=NET), False, value)

    def test_the_system_of_flows(self):
        self.assertEqual(flow_system(NET), System(ABC, (((-1, 1, 0), 0), ((0, 1, 1), 3), ((1, -1, 0), 0))))
        dice = Dice(72)
        seen = [0, 0]
        for _ in range(200):
            net = any_net(dice)
            rows = []
            for node, (low, high) in enumerate(net.needs):
                numbers = tuple((head == node) - (tail == node) for tail, head in net.lines)
                rows += [] if low is None else [(numbers, low)]
                rows += [] if high is None else [(tuple(-number for number in numbers), -high)]
            error = raised(system_of, net.names, tuple(rows))
            self.assertEqual(raised(flow_system, net), error)
            if error is None:
                self.assertEqual(flow_system(net), system_of(net.names, tuple(rows)))
                for _ in range(20):
                    point = tuple((dice.between(-2, 2), 1) for _ in net.names)
                    box = any_box(dice, len(net.names), 2)
                    right = is_right_flow(net, point)
                    seen[right] += 1
                    self.assertIs(holds(flow_system(net), point), right)
                    self.assertIs(is_flow(net, box, point), right and is_in(point, box))
        self.assertGreater(min(seen), 50)

    def test_nodes_without_a_line(self):
        self.assertEqual(raised(flow_system, Net(("a",), ((0, 0),), ((1, None),))), ("Refused", "zero"))
        self.assertEqual(raised(flow_system, Net(("a",), ((0, 1),), ((None, None), (0, 0), (None, -1)))),
                         ("Refused", "zero"))
        self.assertEqual(flow_system(Net(("a",), ((0, 0),), ((-1, 0), (0, 0)))), System(("a",), ()))


class Cuts(unittest.TestCase):

    def test_joined_parts(self):
        net = Net(NAMES, ((1, 0), (1, 2), (4, 4), (5, 3), (3, 5), (2, 0)), ((None, None),) * 7)
        self.assertEqual(joined_parts(net, (0, 1, 2, 3, 4, 5, 6)), ((0, 1, 2), (3, 5), (4,), (6,)))
        self.assertEqual(joined_parts(net, (0, 2, 3, 4)), ((0, 2), (3,), (4,)))
        self.assertEqual(joined_parts(net, ()), ())
        self.assertEqual(joined_parts(some=(6,), net=net), ((6,),))

    def test_parts_of_any_lot(self):
        dice = Dice(73)
        for _ in range(150):
            net = any_net(dice)
            some = any_lot(dice, len(net.needs))
            parts = joined_parts(net, some)
            self.assertEqual(parts, tuple(sorted(parts)))
            self.assertEqual(tuple(sorted(node for part in parts for node in part)), some)
            groups = {node: {node} for node in some}
            for _ in range(7):
                for tail, head in net.lines:
                    if tail in groups and head in groups:
                        groups[tail] = groups[head] = groups[tail] | groups[head]
            for node in some:
                self.assertIn(tuple(sorted(groups[node])), parts)

    def test_rows_of_cuts(self):
        self.assertEqual(cut_row(NET, (1, 2), 0), ((1, 0, 1), 3))
        self.assertEqual(cut_row(NET, (1,), 1), ((-1, 1, 0), 0))
        self.assertIsNone(cut_row(NET, (1, 2), 1))
        self.assertIsNone(cut_row(NET, (0, 1), 0))
        self.assertEqual(cut_row(NET, (), 0), ((0, 0, 0), 0))
        self.assertEqual(cut_row(NET, (), 1), ((0, 0, 0), 0))
        net = Net(ABC, LINES, ((-5, 4), (-2, 3), (1, 6)))
        self.assertEqual(cut_row(net, (0, 1, 2), 0), ((0, 0, 0), -6))
        self.assertEqual(cut_row(side=1, some=(0, 1, 2), net=net), ((0, 0, 0), -13))
        self.assertEqual(cut_row(net, (0, 2), 1), ((1, -1, 0), -10))
        loop = Net(("a", "b"), ((0, 0), (1, 0)), ((2, 2), (None, None)))
        self.assertEqual(cut_row(loop, (0,), 0), ((0, 1), 2))
        # It is returned as it is, with common divisors.
        double = Net(("a", "b"), ((0, 1), (0, 1)), ((0, 0), (4, 4)))
        self.assertEqual(cut_row(double, (1,), 1), ((-1, -1), -4))

    def test_rows_of_any_lot_sum_up_those_of_its_nodes(self):
        dice = Dice(74)
        for _ in range(200):
            net = any_net(dice)
            some = any_lot(dice, len(net.needs))
            for side in (0, 1):
                each = [cut_row(net, (node,), side) for node in some]
                row = cut_row(net, some, side)
                if None in each:
                    self.assertIsNone(row)
                else:
                    numbers = tuple(sum(one[0][at] for one in each) for at in range(len(net.names)))
                    self.assertEqual(row, (numbers, sum(one[1] for one in each)))


class Prices(unittest.TestCase):

    def test_price_rows(self):
        self.assertEqual(price_row(NET, ((0, 1), (-1, 2), (2, 3))), (((-1, 2), (7, 6), (2, 3)), (2, 1)))
        self.assertEqual(price_row(NET, ((1, 2), (1, 2), (0, 1))), (((0, 1), (-1, 2), (-1, 2)), None))
        self.assertEqual(price_row(NET, ((0, 1),) * 3), (((0, 1),) * 3, (0, 1)))
        self.assertEqual(price_row(prices=((0, 1), (0, 1), (-1, 1)), net=NET)[1], None)
        net = Net(("a",), ((0, 1),), ((-3, 5), (2, 7)))
        self.assertEqual(price_row(net, ((1, 2), (-1, 3))), (((-5, 6),), (-23, 6)))

    def test_price_parts(self):
        self.assertEqual(price_parts(((0, 1), (0, 1))), ())
        self.assertEqual(price_parts(((1, 2), (3, 1), (-1, 3), (1, 2), (0, 1), (-1, 1))),
                         (((0, 1, 3), 0, (1, 2)), ((1,), 0, (5, 2)), ((2, 5), 1, (1, 3)), ((5,), 1, (2, 3))))
        self.assertEqual(price_parts(prices=((-2, 1),)), (((0,), 1, (2, 1)),))

    def test_parts_make_the_row(self):
        dice = Dice(75)
        seen = {True: 0, False: 0}
        for _ in range(400):
            net = any_net(dice)
            prices = tuple(pair(Fraction(dice.between(-4, 4), dice.between(1, 2))) for _ in net.needs)
            rises, bound = price_row(net, prices)
            parts = price_parts(prices)
            self.assertEqual([part[1] for part in parts], sorted(part[1] for part in parts))
            self.assertTrue(all(part[0] and part[2][0] > 0 for part in parts))
            values = sorted({frac(price) for price in prices if price[0] > 0})
            self.assertEqual([part[0] for part in parts if part[1] == 0],
                             [tuple(n for n, price in enumerate(prices) if frac(price) >= v) for v in values])
            rows = [cut_row(net, some, side) for some, side, _ in parts]
            seen[bound is None] += 1
            self.assertEqual(bound is None, None in rows)
            if bound is None:
                continue
            total = Fraction(0)
            sums = [Fraction(0)] * len(net.names)
            signs = [set() for _ in net.names]
            for row, (_, _, part) in zip(rows, parts):
                total += row[1] * frac(part)
                for at, number in enumerate(row[0]):
                    sums[at] += number * frac(part)
                    signs[at].add((number > 0) - (number < 0))
            self.assertEqual((tuple(map(pair, sums)), pair(total)), (rises, bound))
            self.assertFalse(any({1, -1} <= some for some in signs))
        self.assertGreater(min(seen.values()), 60)


class LinesLess(unittest.TestCase):

    def check(self, net, names, lines, needs):
        self.assertIsInstance(net, Net)
        self.assertEqual((net.names, net.lines, net.needs), (names, lines, needs))

    def test_lacking(self):
        self.check(lacking(NET, 1), ("a", "c"), ((0, 1), (0, 2)), NEEDS)
        self.check(lacking(at=0, net=NET), ("b", "c"), ((1, 2), (0, 2)), NEEDS)

    def test_shrunk(self):
        self.check(shrunk(NET, 1), ("a", "c"), ((0, 1), (0, 1)), ((None, None), (3, None)))
        self.check(shrunk(NET, 2), ("a", "b"), ((0, 1), (1, 0)), ((None, None), (0, 0)))
        net = Net(ABC, ((3, 1), (2, 4), (3, 3)), ((0, 0), (1, 2), (3, None), (-5, 7), (8, 9)))
        self.check(shrunk(net, 0), ("b", "c"), ((2, 3), (1, 1)), ((0, 0), (-4, 9), (3, None), (8, 9)))
        self.check(shrunk(at=1, net=net), ("a", "c"), ((3, 1), (3, 3)), ((0, 0), (1, 2), (11, None), (-5, 7)))

    def test_a_line_from_a_node_to_itself(self):
        net = Net(("a", "b"), ((1, 1), (0, 1)), ((0, 1), (2, 3)))
        self.check(shrunk(net, 0), ("b",), ((0, 1),), ((0, 1), (2, 3)))
        self.check(lacking(net, 0), ("b",), ((0, 1),), ((0, 1), (2, 3)))

    def test_no_other_line(self):
        for lines in (((0, 1),), ((0, 0),)):
            net = Net(("a",), lines, ((0, 0), (1, 2)))
            self.assertEqual(raised(lacking, net, 0), ("Refused", "names"))
            self.assertEqual(raised(shrunk, net, 0), ("Refused", "names"))

    def test_the_net_does_not_change(self):
        lacking(NET, 0)
        shrunk(NET, 0)
        self.assertEqual((NET.names, NET.lines, NET.needs), (ABC, LINES, NEEDS))

    def test_flows_of_both(self):
        # A flow without the line is one with 0 for it; a flow with it is one of the shrunk net without it.
        dice = Dice(76)
        for _ in range(60):
            net = any_net(dice)
            if len(net.names) == 1:
                continue
            at = dice.below(len(net.names))
            less, one = lacking(net, at), shrunk(net, at)
            free = ((None, None),) * len(less.names)
            for rest in points_on_grid(len(less.names), ((-1, 1), (1, 1)))[:40]:
                whole = rest[:at] + ((0, 1),) + rest[at:]
                self.assertIs(is_flow(less, free, rest), is_right_flow(net, whole))
                flows = [rest[:at] + ((value, 1),) + rest[at:] for value in range(-9, 10)]
                if any(is_right_flow(net, flow) for flow in flows):
                    self.assertTrue(is_flow(one, free, rest))


if __name__ == "__main__":
    unittest.main()
