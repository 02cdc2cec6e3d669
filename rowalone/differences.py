"""Systems of difference rows: arcs between nodes, ways and rings of arcs, and what they tell.

A node is the number of an unknown, or the ground: the number of names, with the value 0.
"""

from rowalone.bars import bars_box
from rowalone.boxes import check_box
from rowalone.eliminations import eliminations
from rowalone.errors import Refused
from rowalone.fractions import fraction_of, less, negative, plus
from rowalone.kinds import is_number
from rowalone.systems import System, row_of


def arc_of(row):
    """The arc that the same points keep as a row."""
    coefficients, bound = row
    used = [at for at, number in enumerate(coefficients) if number != 0]
    if len(used) > 2 or (len(used) == 2 and sum(coefficients) != 0):
        raise Refused("difference")
    one = len(coefficients)
    other = len(coefficients)
    for at in used:
        if coefficients[at] > 0:
            one = at
        else:
            other = at
    return (one, other, fraction_of(bound, abs(coefficients[used[0]])))


def arc_row(size, arc):
    """The row of an arc for so many names."""
    one, other, length = arc
    return row_of(tuple([(int(at == one) - int(at == other), 1) for at in range(size)]), length)


def _arcs(system):
    """The arcs of all rows of a system."""
    return [arc_of(row) for row in system.rows]


def _end_arcs(box):
    """The arcs of the ends of a box."""
    ground = len(box)
    arcs = []
    for at, (low, high) in enumerate(box):
        if low is not None:
            arcs.append((at, ground, low))
        if high is not None:
            arcs.append((ground, at, negative(high)))
    return arcs


def way_arc(system, way):
    """Where a way begins, where it ends, and its length."""
    arcs = _arcs(system)
    if not isinstance(way, tuple) or not way or not all([is_number(number) for number in way]):
        raise Refused("way")
    if not all([number < len(arcs) for number in way]):
        raise Refused("way")
    one, other, length = arcs[way[0]]
    for number in way[1:]:
        start, stop, further = arcs[number]
        if start != other:
            raise Refused("way")
        other = stop
        length = plus(length, further)
    return (one, other, length)


def _ring_or_ways(nodes, arcs):
    """("ring", way) with some plain ring of a length above 0, or ("ways", ways) with the
    greatest length from a node to another one, and some plain way that has it."""
    ways = _arc_ways(arcs)
    for middle in range(nodes):
        for one in range(nodes):
            for other in range(nodes):
                if (one, middle) in ways and (middle, other) in ways:
                    length = plus(ways[(one, middle)][0], ways[(middle, other)][0])
                    way = (*ways[(one, middle)][1], *ways[(middle, other)][1])
                    # Rings found earlier are not above 0, so what is longer comes to no node twice.
                    if one == other and length[0] > 0:
                        return ("ring", way)
                    if one != other and _is_longer(ways, one, other, length):
                        ways[(one, other)] = (length, way)
    return ("ways", ways)


def _arc_ways(arcs):
    """For each two nodes with an arc the greatest length of one, and the way of this arc alone."""
    ways = {}
    for number, (one, other, length) in enumerate(arcs):
        if _is_longer(ways, one, other, length):
            ways[(one, other)] = (length, (number,))
    return ways


def _is_longer(ways, one, other, length):
    """Whether a length is greater than that of the way from a node to another one, if there is one."""
    return (one, other) not in ways or less(ways[(one, other)][0], length)


def _found_ways(system):
    """The same for the arcs of a system."""
    return _ring_or_ways(len(system.names) + 1, _arcs(system))


def positive_ring(system):
    """Some plain ring of a length above 0, None if there is none."""
    word, found = _found_ways(system)
    return found if word == "ring" else None


def longest_ways(system):
    """A dict with some plain way of the greatest length for each two nodes that have a way."""
    word, found = _found_ways(system)
    if word == "ring":
        raise Refused("none")
    return {nodes: way for nodes, (_, way) in found.items()}


def barring_way(system, box):
    """None, or some plain ring or plain way that shows that a box has no solution."""
    check_box(system, box)
    word, found = _found_ways(system)
    if word == "ring":
        return found
    for (one, other), (length, way) in found.items():
        if bars_box(arc_row(len(box), (one, other, length)), box):
            return way
    return None


def open_triple(system):
    """The first triple whose eliminated row is no plain sum of the system, None if there is none."""
    arcs = _arcs(system)
    ground = len(system.names)
    lengths = {nodes: length for nodes, (length, _) in _arc_ways(arcs).items()}
    for triple in eliminations(system):
        # The row with the negative coefficient has the arc that ends at the unknown.
        _, other, further = arcs[triple[0]]
        one, _, length = arcs[triple[1]]
        if not _is_told(lengths, ground, (one, other, plus(length, further))):
            return triple
    return None


def _is_told(lengths, ground, arc):
    """Whether an arc is no longer than a row's own one, or than two to the ground and from it."""
    one, other, length = arc
    if one == other:
        return length[0] <= 0
    if (one, other) in lengths and not less(lengths[(one, other)], length):
        return True
    if (one, ground) not in lengths or (ground, other) not in lengths:
        return False
    return not less(plus(lengths[(one, ground)], lengths[(ground, other)]), length)


def closed_differences(system):
    """The least single system of a system of difference rows."""
    word, found = _found_ways(system)
    if word == "ring":
        raise Refused("none")
    size = len(system.names)
    ground = {nodes: length for nodes, (length, _) in found.items() if size in nodes}
    rows = []
    for (one, other), (length, _) in found.items():
        if size in (one, other) or not _is_told(ground, size, (one, other, length)):
            rows.append(arc_row(size, (one, other, length)))
    return System(system.names, tuple(sorted(rows)))


def least_difference(system, box, one, other):
    """The least value of a node less that of another one at solutions in a box, None if there is none."""
    check_box(system, box)
    word, found = _ring_or_ways(len(box) + 1, _arcs(system) + _end_arcs(box))
    if word == "ring":
        raise Refused("empty")
    return found[(one, other)][0] if (one, other) in found else None
