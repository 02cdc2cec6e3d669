"""Points [60], [61] and what [62] says of `least_flows`: flows or cuts, and least systems of flows."""

import unittest
from itertools import combinations

from rowalone.bars import told_by
from rowalone.boxes import free_box, placed
from rowalone.court import is_single
from rowalone.cuts import carried, flow_or_cut, is_barring_cut, least_flows
from rowalone.nets import Net, cut_row, gains, is_flow, joined_parts, shrunk
from rowalone.papers import is_sum_of, point_or_paper
from rowalone.systems import System, system_of
from tests.helpers import (Anything, Dice, NAMES, any_box, any_net, frac, is_barred, odd_values, pair, raised,
                           without, wrong_boxes)

ZERO = (0, 1)
NET = Net(("a", "b", "c"), ((0, 1), (1, 2), (0, 2)), ((None, None), (0, 0), (3, None)))
FREE = ((None, None),) * 3
EMPTY = ((ZERO, (1, 1)), (None, None), (ZERO, (1, 1)))
LOOP = Net(("x",), ((0, 0),), ((0, 0),))


def is_joined(net, some):
    """By the words: some node, and lines within the lot lead from it to each other one."""
    if not some:
        return False
    reached = {some[0]}
    for _ in some:
        for tail, head in net.lines:
            if tail in some and head in some and (tail in reached or head in reached):
                reached |= {tail, head}
    return reached == set(some)


def all_cuts(net):
    nodes = range(len(net.needs))
    for many in range(1, len(net.needs) + 1):
        for some in combinations(nodes, many):
            if is_joined(net, some):
                yield some, 0
                yield some, 1


def rest_of(net, some):
    """All other nodes to which lines, one after another, lead from a lot."""
    reached = set(some)
    for _ in net.needs:
        for tail, head in net.lines:
            if tail in reached or head in reached:
                reached |= {tail, head}
    return tuple(sorted(reached - set(some)))


def is_in_least(net, some, side):
    """Whether the row of a cut is in the least system, by the last sentences of [61]."""
    row, rest = cut_row(net, some, side), rest_of(net, some)
    if row is None or not rest:
        return False
    other = cut_row(net, rest, 1 - side)
    if is_joined(net, rest):
        return other is None or other[1] <= row[1]
    both = cut_row(net, tuple(sorted(some + rest)), side)
    if (other is not None and row[1] <= other[1]) or (both is not None and both[1] >= 0):
        return False
    parts = joined_parts(net, rest)
    return all(any(None in net.needs[node] or net.needs[node][0] < net.needs[node][1] for node in part)
               for part in parts)


def whole_box(dice, size, limit, part):
    """A box whose ends are integers."""
    box = []
    for _ in range(size):
        low = dice.between(-limit, limit) if dice.chance(part, 10) else None
        high = dice.between(-limit, limit) if dice.chance(part, 10) else None
        if low is not None and high is not None:
            low, high = min(low, high), max(low, high)
        box.append(tuple(None if end is None else (end, 1) for end in (low, high)))
    return tuple(box)


class FlowOrCut(unittest.TestCase):

    def test_ordinary_inputs(self):
        word, flow = flow_or_cut(NET, FREE)
        self.assertEqual((word, is_flow(NET, FREE, flow)), ("flow", True))
        word, cut = flow_or_cut(box=EMPTY, net=NET)
        self.assertEqual(word, "cut")
        self.assertIn(cut, (((2,), 0), ((1, 2), 0)))
        self.assertIs(is_barring_cut(NET, EMPTY, cut), True)

    def test_boxes_are_checked_first(self):
        for value, at in wrong_boxes(3):
            for call, more in ((flow_or_cut, ()), (is_barring_cut, (None,)), (carried, (0,))):
                self.assertEqual(raised(call, NET, value, *more), ("InvalidBox", at), value)

    def test_lines_from_a_node_to_itself_and_nodes_without_a_line(self):
        self.assertEqual(flow_or_cut(LOOP, ((None, (-3, 2)),))[0], "flow")
        net = Net(("x",), ((0, 0),), ((1, 2),))
        self.assertEqual(flow_or_cut(net, ((None, None),)), ("cut", ((0,), 0)))
        net = Net(("x",), ((0, 1),), ((None, None), (None, None), (None, -1)))
        self.assertEqual(flow_or_cut(net, ((None, None),)), ("cut", ((2,), 1)))
        net = Net(("x",), ((6, 0),), ((1, 1),) + ((0, 0),) * 5 + ((-1, -1),))
        self.assertEqual(flow_or_cut(net, ((None, None),)), ("flow", ((1, 1),)))

    def test_exactly_one_of_both(self):
        dice = Dice(331)
        seen = {"flow": 0, "cut": 0}
        for _ in range(400):
            net = any_net(dice)
            wholes = dice.chance(1, 2)
            size, part = len(net.names), dice.between(2, 10)
            box = whole_box(dice, size, 3, part) if wholes else any_box(dice, size, dice.pick((2, 10 ** 9)), part)
            word, found = flow_or_cut(net, box)
            seen[word] += 1
            barring = [cut for cut in all_cuts(net) if self.bars(net, cut, box)]
            if word == "flow":
                self.assertIs(is_flow(net, box, found), True)
                self.assertEqual(barring, [])
                self.assertTrue(not wholes or all(bottom == 1 for _, bottom in found))
            else:
                self.assertIn(found, barring)
                self.assertIs(is_barring_cut(net, box, found), True)
        self.assertGreater(min(seen.values()), 100)

    def bars(self, net, cut, box):
        row = cut_row(net, *cut)
        return row is not None and is_barred(row, box)

    def test_is_barring_cut(self):
        dice = Dice(332)
        seen = 0
        for _ in range(200):
            net = any_net(dice)
            box = any_box(dice, len(net.names), 2, 9)
            cuts = list(all_cuts(net))
            for some in [lot for many in range(4) for lot in combinations(range(len(net.needs)), many)]:
                for side in (0, 1):
                    right = (some, side) in cuts and self.bars(net, (some, side), box)
                    seen += right
                    self.assertIs(is_barring_cut(net, box, (some, side)), right)
        self.assertGreater(seen, 100)

    def test_values_that_are_no_cuts(self):
        right = ((1, 2), 0)
        self.assertIs(is_barring_cut(value=right, box=EMPTY, net=NET), True)
        wrong = [[(1, 2), 0], ((1, 2),), ((1, 2), 0, 0), ([1, 2], 0), ((2, 1), 0), ((1, 1, 2), 0), ((), 0), ((1, 3), 0),
                 ((1, 2), 1), ((1, 2), False), ((1, 2), 2), ((1, 2), -1), ((1, 2), 0.0), ((1, 2), None), ((True, 2), 0),
                 ((1, 2.0), 0), (None, 0), (2, 0), ((1, -1), 0), (right, right), Anything(), ((2,), Anything())]
        for value in odd_values() + wrong:
            self.assertIs(is_barring_cut(NET, EMPTY, value), False, value)
        # Node 3 has no line, so a lot with it is not joined although its row would bar.
        net = Net(NET.names, NET.lines, NET.needs + ((0, 0),))
        self.assertIs(is_barring_cut(net, EMPTY, ((1, 2), 0)), True)
        self.assertIs(is_barring_cut(net, EMPTY, ((1, 2, 3), 0)), False)


class Carried(unittest.TestCase):

    def test_examples(self):
        self.assertEqual(carried(NET, ((ZERO, (2, 1)), (None, None), (ZERO, (1, 1))), 0),
                         ((2, 1), (2, 1), ((1, 2), 0), None))

    def test_no_flow(self):
        self.assertEqual(raised(carried, NET, EMPTY, 2), ("Refused", "none"))
        self.assertEqual(raised(carried, Net(("x",), ((0, 0),), ((1, 1),)), ((None, None),), 0), ("Refused", "none"))

    def test_ends_that_are_not_there(self):
        self.assertEqual(carried(at=0, box=((None, None),), net=LOOP), (None, None, None, None))
        self.assertEqual(carried(LOOP, ((ZERO, (1, 3)),), 0), (ZERO, (1, 3), None, None))
        # An end of the box that a cut tells, too, has no cut.
        net = Net(("x",), ((0, 1),), ((None, None), (1, 2)))
        self.assertEqual(carried(net, (((1, 1), (2, 1)),), 0), ((1, 1), (2, 1), None, None))
        low, high, one, other = carried(net, (((1, 2), None),), 0)
        self.assertEqual((low, high, one, other), ((1, 1), (2, 1), ((1,), 0), ((1,), 1)))

    def test_least_and_greatest(self):
        dice = Dice(333)
        checked = 0
        while checked < 150:
            net = any_net(dice)
            box = any_box(dice, len(net.names), 4, dice.between(1, 8))
            if flow_or_cut(net, box)[0] == "cut":
                continue
            checked += 1
            at = dice.below(len(net.names))
            low, high, one, other = carried(net, box, at)
            for end, cut, side in ((low, one, 0), (high, other, 1)):
                sign = 1 if side else -1
                if end is None:
                    self.assertEqual((box[at][side], cut), (None, None))
                    far = (sign * 10 ** 12, 1)
                    self.assertEqual(flow_or_cut(net, placed(box, at, far))[0], "flow")
                else:
                    # There is a flow at the end, and none beyond it.
                    self.assertEqual(flow_or_cut(net, placed(box, at, end))[0], "flow")
                    self.assertEqual(cut is None, box[at][side] == end)
                    beyond = pair(frac(end) + sign * frac((1, 10 ** 9)))
                    if cut is not None:
                        self.assertEqual(flow_or_cut(net, placed(box, at, beyond))[0], "cut")
                        self.assertIn(cut, list(all_cuts(net)))
                        self.assertEqual(told_by(cut_row(net, *cut), box, at)[side], end)


class LeastFlows(unittest.TestCase):

    def test_ordinary_inputs(self):
        # The line b carries what the line a carries, and both with c at least 3.
        self.assertEqual(least_flows(NET), System(NET.names, (((-1, 1, 0), 0), ((0, 1, 1), 3), ((1, -1, 0), 0),
                                                              ((1, 0, 1), 3))))
        self.assertEqual(least_flows(net=LOOP), System(("x",), ()))
        self.assertEqual(least_flows(Net(("x",), ((0, 1),), ((None, None), (None, None)))), System(("x",), ()))

    def test_no_flow(self):
        for needs in (((1, 1), (0, 0)), ((1, 1), (1, 1)), ((None, -1), (None, 0))):
            self.assertEqual(raised(least_flows, Net(("x",), ((0, 1),), needs)), ("Refused", "none"))
        self.assertEqual(raised(least_flows, Net(("x",), ((0, 0),), ((1, 2),))), ("Refused", "none"))

    def test_more_than_60_rows(self):
        lines = tuple((0, node) for node in range(1, 7))
        self.assertEqual(raised(least_flows, Net(NAMES, lines, ((-2, 3),) * 7)), ("Refused", "wide"))
        lines = ((0, 1), (1, 2), (1, 3), (3, 4), (1, 5), (1, 6))
        needs = ((3, 4), (3, 4), (-1, 2), (-4, -2), (-2, None), (-1, None), (-4, -1))
        self.assertEqual(len(least_flows(Net(NAMES, lines, needs)).rows), 60)
        lines = tuple((0, node) for node in range(1, 7))
        # With lows and highs that are equal only the cuts with a joined rest are left.
        self.assertEqual(len(least_flows(Net(NAMES, lines, ((-6, -6),) + ((1, 1),) * 6)).rows), 12)

    def test_by_the_words(self):
        dice = Dice(334)
        seen, checked, unjoined = 0, 0, 0
        while checked < 250:
            net = any_net(dice, dice.between(1, 6), 3, dice.between(1, 3))
            if flow_or_cut(net, free_box(net))[0] == "cut":
                self.assertEqual(raised(least_flows, net), ("Refused", "none"))
                continue
            checked += 1
            rows = {cut_row(net, *cut) for cut in all_cuts(net) if is_in_least(net, *cut)}
            if len(rows) > 60:
                self.assertEqual(raised(least_flows, net), ("Refused", "wide"))
                continue
            seen += len(rows) > 2
            unjoined += any(not is_joined(net, rest_of(net, some)) for some, side in all_cuts(net)
                            if is_in_least(net, some, side))
            self.assertEqual(least_flows(net), System(net.names, tuple(sorted(rows))))
        self.assertGreater(seen, 60)
        self.assertGreater(unjoined, 20)

    def test_single_with_the_same_solutions_and_nothing_needless(self):
        dice = Dice(335)
        checked = 0
        while checked < 40:
            net = any_net(dice, 5, 3, 3)
            if raised(least_flows, net) is not None:
                continue
            checked += 1
            system = least_flows(net)
            self.assertTrue(is_single(system))
            for row in system.rows:
                self.assertFalse(is_sum_of([other for other in system.rows if other != row], row))
            for _ in range(10):
                box = any_box(dice, len(net.names), 3, 8)
                self.assertEqual(flow_or_cut(net, box)[0] == "flow", point_or_paper(system, box)[0] == "point")

    def test_equal_lows_and_highs(self):
        dice = Dice(336)
        checked = 0
        while checked < 60:
            net = any_net(dice, 6, 2, 3)
            point = tuple((dice.between(-3, 3), 1) for _ in net.names)
            needs = tuple((gain[0], gain[0]) for gain in gains(net, point))
            net = Net(net.names, net.lines, needs)
            rows = tuple(sorted({cut_row(net, *cut) for cut in all_cuts(net)
                                 if is_joined(net, rest_of(net, cut[0]))}))
            checked += 1
            self.assertEqual(least_flows(net), system_of(net.names, rows))
            self.assertEqual(least_flows(net).rows, rows)

    def test_one_line_less(self):
        dice = Dice(337)
        checked = 0
        while checked < 120:
            net = any_net(dice)
            if len(net.names) == 1 or raised(least_flows, net) is not None:
                continue
            checked += 1
            at = dice.below(len(net.names))
            rows = tuple((without(row[0], at), row[1]) for row in least_flows(net).rows if row[0][at] == 0)
            other = shrunk(net, at)
            self.assertEqual(least_flows(other), System(other.names, rows))


if __name__ == "__main__":
    unittest.main()
