"""Nets: unknowns that are lines between nodes, and what the nodes need."""

from rowalone.boxes import check_box, check_point, in_box, is_point
from rowalone.errors import Refused
from rowalone.fractions import less, minus, plus, times
from rowalone.kinds import is_name_lot, is_number, is_whole
from rowalone.systems import left_out, system_of

MOST_NODES = 7


class Net:
    """Names for lines, the nodes that they join, and the needs of the nodes."""

    def __init__(self, names, lines, needs):
        if not is_name_lot(names):
            raise Refused("names")
        if not isinstance(lines, tuple) or len(lines) != len(names):
            raise Refused("lines")
        if not all([_is_line(line) for line in lines]):
            raise Refused("lines")
        if not isinstance(needs, tuple) or not 1 <= len(needs) <= MOST_NODES:
            raise Refused("needs")
        if not all([_is_need(need) for need in needs]):
            raise Refused("needs")
        if not all([tail < len(needs) and head < len(needs) for tail, head in lines]):
            raise Refused("nodes")
        self.names = names
        self.lines = lines
        self.needs = needs


def _is_line(value):
    """Whether any value is a tuple of two numbers."""
    return isinstance(value, tuple) and len(value) == 2 and all([is_number(node) for node in value])


def _is_need(value):
    """Whether any value is a pair of a low and a high, each an integer or None."""
    if not isinstance(value, tuple) or len(value) != 2:
        return False
    low, high = value
    if not (low is None or is_whole(low)) or not (high is None or is_whole(high)):
        return False
    return low is None or high is None or low <= high


def _ways_in(net, some):
    """For each line 1 if it leads into a lot of nodes, -1 if out of it, otherwise 0."""
    return tuple([int(head in some) - int(tail in some) for tail, head in net.lines])


def gains(net, point):
    """For each node the sum of the lines to it less the sum of those from it."""
    check_point(net, point)
    return _gains(net, point)


def _gains(net, point):
    """The same for a point that has been checked."""
    found = [(0, 1)] * len(net.needs)
    for value, (tail, head) in zip(point, net.lines):
        found[head] = plus(found[head], value)
        found[tail] = minus(found[tail], value)
    return tuple(found)


def is_flow(net, box, value):
    """Whether any value is a flow in a box."""
    check_box(net, box)
    if not is_point(net, value) or not in_box(value, box):
        return False
    return all([_meets(gain, need) for gain, need in zip(_gains(net, value), net.needs)])


def _meets(gain, need):
    """Whether a fraction is within a need."""
    low, high = need
    if low is not None and less(gain, (low, 1)):
        return False
    return high is None or not less((high, 1), gain)


def flow_system(net):
    """The system whose solutions are the flows."""
    rows = []
    for node in range(len(net.needs)):
        for side in (0, 1):
            row = cut_row(net, (node,), side)
            if row is not None:
                rows.append(row)
    return system_of(net.names, tuple(rows))


def joined_parts(net, some):
    """The joined lots, as large as possible, into which a lot of nodes falls."""
    parts = []
    for node in some:
        if not any([node in part for part in parts]):
            parts.append(_part_of(net, some, node))
    return tuple(sorted(parts))


def _part_of(net, some, node):
    """The nodes of a lot that lines within it join with one of them."""
    part = [node]
    queue = [node]
    while queue:
        place = queue.pop()
        for tail, head in net.lines:
            if place in (tail, head):
                near = tail + head - place
                if near in some and near not in part:
                    part.append(near)
                    queue.append(near)
    return tuple(sorted(part))


def _total(numbers):
    """The sum of some integers, None if one of them is None."""
    total = 0
    for number in numbers:
        if number is None:
            return None
        total += number
    return total


def cut_row(net, some, side):
    """The row that the lows, or the highs, of a lot of nodes ask for, None if one is not there."""
    total = _total([net.needs[node][side] for node in some])
    if total is None:
        return None
    ways = _ways_in(net, some)
    return (ways, total) if side == 0 else (tuple([-way for way in ways]), -total)


def price_row(net, prices):
    """The differences of prices over the lines, and the sum of the prices times needs."""
    rises = tuple([minus(prices[head], prices[tail]) for tail, head in net.lines])
    total = (0, 1)
    for price, (low, high) in zip(prices, net.needs):
        need = low if price[0] > 0 else high
        if price[0] != 0:
            if need is None:
                return (rises, None)
            total = plus(total, times(price, (need, 1)))
    return (rises, total)


def price_parts(prices):
    """The lots of nodes with at least a price, with their sides and parts."""
    falls = tuple([(-price[0], price[1]) for price in prices])
    return (*_parts_of(prices, 0), *_parts_of(falls, 1))


def _parts_of(prices, side):
    """The same for the prices above 0 alone."""
    parts = []
    lower = (0, 1)
    left = [price for price in prices if price[0] > 0]
    while left:
        price = left[0]
        for other in left:
            if less(other, price):
                price = other
        some = tuple([node for node, other in enumerate(prices) if not less(other, price)])
        parts.append((some, side, minus(price, lower)))
        lower = price
        left = [other for other in left if less(price, other)]
    return parts


def lacking(net, at):
    """The net without a line."""
    if len(net.names) == 1:
        raise Refused("names")
    return Net(left_out(net.names, at), left_out(net.lines, at), net.needs)


def shrunk(net, at):
    """The net without a line, in which its two nodes are one."""
    less_one = lacking(net, at)
    first = min(net.lines[at])
    second = max(net.lines[at])
    if first == second:
        return less_one
    needs = list(net.needs)
    needs[first] = tuple([_total(ends) for ends in zip(net.needs[first], net.needs[second])])
    lines = []
    for line in less_one.lines:
        lines.append(tuple([_node_after(node, first, second) for node in line]))
    return Net(less_one.names, tuple(lines), left_out(tuple(needs), second))


def _node_after(node, first, second):
    """The number of a node after the second one of two nodes has become the first one."""
    if node == second:
        return first
    return node - 1 if node > second else node
