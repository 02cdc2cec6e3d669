"""Webs: which rows have which unknowns, and the rings of both."""

from rowalone.errors import Refused
from rowalone.kinds import is_number


def web(system):
    """For each row the lot of its unknowns."""
    return tuple([_unknowns(row) for row in system.rows])


def _unknowns(row):
    """The lot of the unknowns of a row."""
    return tuple([at for at, coefficient in enumerate(row[0]) if coefficient != 0])


def web_ring(system):
    """Some ring, None if there is none."""
    lots = web(system)
    for row, lot in enumerate(lots):
        for place, other in enumerate(lot):
            for one in lot[:place]:
                way = _way(lots[:row], one, other)
                if way is not None:
                    return (*way, (other, row))
    return None


def _way(lots, one, other):
    """Pairs of an unknown and a row that lead from an unknown to another one, None if none do."""
    ways = {one: ()}
    queue = [one]
    while queue:
        unknown = queue.pop()
        for row, lot in enumerate(lots):
            if unknown in lot:
                for near in lot:
                    if near not in ways:
                        ways[near] = (*ways[unknown], (unknown, row))
                        queue.append(near)
    return ways.get(other)


def is_web_ring(system, value):
    """Whether any value is a ring."""
    if not isinstance(value, tuple) or len(value) < 2:
        return False
    if not all([_is_place(system, item) for item in value]):
        return False
    unknowns = [item[0] for item in value]
    rows = [item[1] for item in value]
    if len(set(unknowns)) < len(value) or len(set(rows)) < len(value):
        return False
    lots = web(system)
    following = unknowns[1:] + unknowns[:1]
    return all([one in lots[row] and other in lots[row] for one, other, row in zip(unknowns, following, rows)])


def _is_place(system, value):
    """Whether any value is a tuple of the numbers of an unknown and of a row."""
    if not isinstance(value, tuple) or len(value) != 2:
        return False
    unknown, row = value
    if not is_number(unknown) or not is_number(row):
        return False
    return unknown < len(system.names) and row < len(system.rows)


def sweep(system):
    """Numbers of rows, each at most twice, whose run results in the limit of each box."""
    if web_ring(system) is not None:
        raise Refused("ring")
    order = _rows_from(web(system), len(system.names))
    # The way to a first unknown tells what all rows leave for it, the way back tells it to all.
    return tuple(reversed(order)) + order


def _rows_from(lots, size):
    """The numbers of all rows, those nearer to the first unknown of their part before others."""
    order = []
    reached = {}
    for start in range(size):
        queue = [start]
        while queue:
            unknown = queue.pop(0)
            reached[unknown] = True
            for row, lot in enumerate(lots):
                if unknown in lot and row not in order:
                    order.append(row)
                    queue.extend([near for near in lot if near not in reached])
    return tuple(order)
