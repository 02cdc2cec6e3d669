"""Whole solutions of a box: how many there are, all of them, and which one has an index."""

from rowalone.errors import InvalidNumber, Refused
from rowalone.kinds import is_number
from rowalone.wholes import whole_told

MOST_LINES = 10000
MOST_LISTED = 1000


def _ranges(system, box):
    """For each unknown the least and the greatest integer that rows leave for it, None if there are no solutions."""
    ends = whole_told(system, box)
    # If a row bars the box, the ends that it tells cross.
    if any([low is not None and high is not None and low > high for low, high in ends]):
        return None
    if any([low is None or high is None for low, high in ends]):
        raise Refused("endless")
    many = 1
    for low, high in ends[:-1]:
        many = many * (high - low + 1)
    if many > MOST_LINES:
        raise Refused("wide")
    return ends


def _lines(system, box):
    """All whole solutions, ascending: tuples of all numbers but the last, its least and its greatest value."""
    ends = _ranges(system, box)
    if ends is None:
        return []
    firsts = [()]
    for low, high in ends[:-1]:
        firsts = [(*first, value) for first in firsts for value in range(low, high + 1)]
    found = []
    for first in firsts:
        low, high = _last_range(system, first, ends[-1])
        if low <= high:
            found.append((first, low, high))
    return found


def _last_range(system, first, ends):
    """The least and the greatest integer of the last unknown if all others are told, the low above the high if none."""
    low, high = ends
    for coefficients, bound in system.rows:
        rest = bound - sum([number * value for number, value in zip(coefficients, first)])
        last = coefficients[-1]
        if last > 0:
            low = max(low, -(-rest // last))
        elif last < 0:
            high = min(high, rest // last)
        elif rest > 0:
            return (1, 0)
    return (low, high)


def _count(lines):
    """How many whole solutions some lines have."""
    return sum([high - low + 1 for _, low, high in lines])


def whole_count(system, box):
    """The number of whole solutions in a box."""
    return _count(_lines(system, box))


def whole_solutions(system, box):
    """All whole solutions in a box, ascending."""
    lines = _lines(system, box)
    if _count(lines) > MOST_LISTED:
        raise Refused("many")
    return tuple([(*first, value) for first, low, high in lines for value in range(low, high + 1)])


def whole_at(system, box, index):
    """The whole solution in a box with an index."""
    lines = _lines(system, box)
    if not is_number(index) or index >= _count(lines):
        raise InvalidNumber("index")
    left = index
    place = 0
    while left > lines[place][2] - lines[place][1]:
        left = left - (lines[place][2] - lines[place][1] + 1)
        place = place + 1
    first, low, _ = lines[place]
    return (*first, low + left)


def whole_below(system, box, point):
    """How many whole solutions in a box are less than a whole point."""
    many = 0
    for first, low, high in _lines(system, box):
        if first < point[:-1]:
            many = many + high - low + 1
        elif first == point[:-1]:
            many = many + max(0, min(high + 1, point[-1]) - low)
    return many
