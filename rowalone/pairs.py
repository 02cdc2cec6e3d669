"""Systems of pair rows, which have one coefficient or two of the same size, and turns that make them differences."""

from rowalone.closing import needed_rows, round_rows
from rowalone.errors import Refused
from rowalone.kinds import MOST_ROWS, is_number, is_rising
from rowalone.papers import check_solution
from rowalone.systems import System
from rowalone.webs import web

# Four rows for each two of six names and two for each name: all rows but for factors and bounds.
MOST_PAIRS = 72


def _check_pairs(system):
    """Raise an error unless all rows are pair rows."""
    for coefficients, _ in system.rows:
        sizes = [abs(number) for number in coefficients if number != 0]
        if len(sizes) > 2 or sizes[0] != sizes[-1]:
            raise Refused("pair")


def closed_pairs(system):
    """The least single system of a system of pair rows."""
    _check_pairs(system)
    check_solution(system)
    rows = needed_rows(system.rows, MOST_PAIRS)
    further = round_rows(rows, MOST_PAIRS)
    while further != rows:
        rows = further
        further = round_rows(rows, MOST_PAIRS)
    if len(rows) > MOST_ROWS:
        raise Refused("wide")
    return System(system.names, rows)


def _is_even(row):
    """Whether a pair row has two equal coefficients, so that one of them must be turned."""
    used = [number for number in row[0] if number != 0]
    return len(used) == 2 and used[0] == used[1]


def turning(system):
    """Unknowns that make all rows difference rows if they are turned, or a ring that does not let them."""
    _check_pairs(system)
    ways = {}
    for start in range(len(system.names)):
        if start not in ways:
            ways[start] = ((), False)
            _reach(system, ways, start)
    for number, lot in enumerate(web(system)):
        if len(lot) == 2:
            one, is_turned = ways[lot[0]]
            other, are_turned = ways[lot[1]]
            if (is_turned != are_turned) != _is_even(system.rows[number]):
                return ("ring", _ring(one, other, number))
    return ("turn", tuple([name for at, name in enumerate(system.names) if ways[at][1]]))


def _reach(system, ways, start):
    """Add to `ways` each unknown that rows lead to from one: the rows, and whether they turn it."""
    lots = web(system)
    queue = [start]
    while queue:
        unknown = queue.pop(0)
        rows, is_turned = ways[unknown]
        for number, lot in enumerate(lots):
            if unknown in lot:
                for near in lot:
                    if near not in ways:
                        ways[near] = ((*rows, number), is_turned != _is_even(system.rows[number]))
                        queue.append(near)


def _ring(one, other, number):
    """The ring of a row and of the rows that lead to its two unknowns from the same one."""
    common = 0
    for row, further in zip(one, other):
        if row != further:
            break
        common += 1
    return (*one[common:], number, *other[common:][::-1])


def is_turning(system, value):
    """Whether any value shows that turned unknowns make all rows difference rows, or that none do."""
    _check_pairs(system)
    if not isinstance(value, tuple) or len(value) != 2:
        return False
    word, some = value
    if not isinstance(word, str) or not isinstance(some, tuple):
        return False
    if word == "turn":
        return _is_turn(system, some)
    return word == "ring" and _is_odd_ring(system, some)


def _is_turn(system, some):
    """Whether a tuple is a lot of names whose turning makes all rows difference rows."""
    if not all([isinstance(name, str) and name in system.names for name in some]) or not is_rising(some):
        return False
    turned = [name in some for name in system.names]
    for row, lot in zip(system.rows, web(system)):
        if len(lot) == 2 and (turned[lot[0]] != turned[lot[1]]) != _is_even(row):
            return False
    return True


def _is_odd_ring(system, some):
    """Whether a tuple is a ring of different rows, an odd number of them with two equal coefficients."""
    if not all([is_number(number) and number < len(system.rows) for number in some]):
        return False
    if not some or len(set(some)) < len(some):
        return False
    lots = [web(system)[number] for number in some]
    even = [number for number in some if _is_even(system.rows[number])]
    return len(even) & 1 == 1 and any([_is_ring_from(lots, start) for start in lots[0]])


def _is_ring_from(lots, start):
    """Whether lots of unknowns lead from one unknown to others and back at their end."""
    found = []
    unknown = start
    for lot in lots:
        if unknown not in lot or len(lot) != 2 or unknown in found:
            return False
        found.append(unknown)
        unknown = lot[1] if unknown == lot[0] else lot[0]
    return unknown == start
