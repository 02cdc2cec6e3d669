"""Rings of lines in nets, heights of nodes, and the rises of lines between them."""

from rowalone.bars import bars_box
from rowalone.boxes import check_box
from rowalone.errors import Refused
from rowalone.fractions import least_of, minus, times
from rowalone.kinds import is_whole
from rowalone.nets import gains, joined_parts
from rowalone.papers import end_rows
from rowalone.programs import point_or_shares
from rowalone.systems import System


def all_rings(net):
    """The lot of all rings, in both directions."""
    found = [()]
    for _ in net.lines:
        found = [(*ways, way) for ways in found for way in (-1, 0, 1)]
    return tuple([ways for ways in found if _is_ring(net, ways)])


def _is_ring(net, ways):
    """Whether lines, each used one way or the other or not at all, are a ring."""
    steps = {}
    for way, (tail, head) in zip(ways, net.lines):
        if way != 0:
            start, stop = (tail, head) if way > 0 else (head, tail)
            if start in steps:
                return False
            steps[start] = stop
    if not steps:
        return False
    nodes = list(steps)
    node = nodes[0]
    for _ in nodes:
        if node not in steps:
            return False
        node = steps.pop(node)
    return node == nodes[0]


def ring_parts(net, point):
    """Rings and parts above 0 that sum to a point, each line used only as in the point."""
    if any([gain != (0, 1) for gain in gains(net, point)]):
        raise Refused("gain")
    rings = all_rings(net)
    parts = []
    left = point
    while any([value != (0, 1) for value in left]):
        ring = _ring_within(rings, left)
        part = least_of(tuple([(abs(value[0]), value[1]) for way, value in zip(ring, left) if way != 0]))
        parts.append((ring, part))
        # At least one line more is 0 now, and all gains still are.
        left = tuple([minus(value, times((way, 1), part)) for way, value in zip(ring, left)])
    return tuple(parts)


def _ring_within(rings, point):
    """The first ring that uses each of its lines as a point does, None if there is none."""
    for ring in rings:
        if all([way == 0 or way * value[0] > 0 for way, value in zip(ring, point)]):
            return ring
    return None


def heights_or_ring(net, box):
    """Some heights of the nodes with all rises in a box, or some ring that bars the box."""
    check_box(net, box)
    for ring in all_rings(net):
        if bars_box((ring, 0), box):
            return ("ring", ring)
    rows = [(_height_row(net, coefficients), bound) for coefficients, bound in end_rows(box)]
    # The rises of nodes have tables whose numbers are 1, 0 and -1, as flows have.
    return ("heights", point_or_shares(len(net.needs), rows)[1])


def _height_row(net, coefficients):
    """The coefficients of nodes for coefficients of the rises of lines."""
    found = [0] * len(net.needs)
    for number, (tail, head) in zip(coefficients, net.lines):
        found[head] += number
        found[tail] -= number
    return tuple(found)


def is_barring_ring(net, box, value):
    """Whether any value is a ring whose row bars a box."""
    check_box(net, box)
    if not isinstance(value, tuple) or not all([is_whole(way) for way in value]):
        return False
    return value in all_rings(net) and bars_box((value, 0), box)


def least_rises(net):
    """The least single system of the rises of lines."""
    return System(net.names, tuple([(ring, 0) for ring in all_rings(net)]))


def ring_or_cut(net, ways, at):
    """Some ring with 1 for a line that uses the others as they may be used, or some cut that none leaves."""
    tail, head = net.lines[at]
    reached = _reached(net, (*ways[:at], 0, *ways[at + 1:]), head)
    if tail in reached:
        ring = [0] * len(net.lines)
        ring[at] = 1
        for line, way in reached[tail]:
            ring[line] = way
        return ("ring", tuple(ring))
    whole = _part_with(net, tuple(range(len(net.needs))), head)
    rest = tuple([node for node in whole if node not in reached])
    # The other parts of the rest hang on what is reached, so the lot is joined with them.
    beyond = _part_with(net, rest, tail)
    return ("cut", tuple([node for node in whole if node not in beyond]))


def _reached(net, ways, start):
    """For each node that lines as they may be used lead to, pairs of a line and how it is used."""
    reached = {start: ()}
    queue = [start]
    while queue:
        node = queue.pop(0)
        for line, (tail, head) in enumerate(net.lines):
            for way, one, other in ((1, tail, head), (-1, head, tail)):
                if ways[line] in (way, 2) and one == node and other not in reached:
                    reached[other] = (*reached[node], (line, way))
                    queue.append(other)
    return reached


def _part_with(net, some, node):
    """The joined part of a lot in which a node is."""
    return [part for part in joined_parts(net, some) if node in part][0]
