"""Whole numbers: whole boxes, tight rows, and integers chosen by single rows."""

from rowalone.bars import barring, bars_box, told, told_by, told_ends
from rowalone.boxes import check_box, placed, with_range
from rowalone.court import is_single
from rowalone.eliminations import eliminations
from rowalone.errors import InvalidBox, InvalidNumber, Refused
from rowalone.kinds import is_number, is_whole
from rowalone.systems import common_divisor, system_of

MOST_TRIALS = 20000


def _is_whole_range(value):
    """Whether any value is a pair of ends, the low at most the high where both are there."""
    if not isinstance(value, tuple) or len(value) != 2:
        return False
    low, high = value
    if not (low is None or is_whole(low)) or not (high is None or is_whole(high)):
        return False
    return low is None or high is None or low <= high


def check_whole_box(system, value):
    """Raise an error unless any value is a whole box of the system."""
    if not isinstance(value, tuple) or len(value) != len(system.names):
        raise InvalidBox(-1)
    for at, ends in enumerate(value):
        if not _is_whole_range(ends):
            raise InvalidBox(at)


def _is_whole_box(system, value):
    """Whether any value is a whole box of the system."""
    try:
        check_whole_box(system, value)
    except InvalidBox:
        return False
    return True


def _as_fraction(end):
    """An integer as a fraction; None, no end, stays."""
    return None if end is None else (end, 1)


def fraction_box(box):
    """The box with the ends of a whole box as fractions."""
    return tuple([(_as_fraction(low), _as_fraction(high)) for low, high in box])


def _inner(ends):
    """The least and the greatest integer between two ends, fractions or None."""
    low, high = ends
    return (None if low is None else -(-low[0] // low[1]), None if high is None else high[0] // high[1])


def _is_crossed(ends):
    """Whether a low is above a high."""
    low, high = ends
    return low is not None and high is not None and low > high


def whole_part(system, box):
    """The whole box with the whole points of a box, None if there are none."""
    check_box(system, box)
    found = tuple([_inner(ends) for ends in box])
    return None if any([_is_crossed(ends) for ends in found]) else found


def rounded(point):
    """The whole point with the nearest integers, the lower one of two."""
    return tuple([-((bottom - 2 * top) // (2 * bottom)) for top, bottom in point])


def tight_row(row):
    """The row without a common divisor of its coefficients that the same whole points keep."""
    coefficients, bound = row
    divisor = common_divisor(coefficients)
    return (tuple([number // divisor for number in coefficients]), -(-bound // divisor))


def contrary(row):
    """The row that just those whole points keep that do not keep another one."""
    coefficients, bound = tight_row(row)
    return (tuple([-number for number in coefficients]), 1 - bound)


def tightened(system):
    """The system of the tight rows."""
    return system_of(system.names, tuple([tight_row(row) for row in system.rows]))


def whole_told(system, box):
    """For each unknown the told ends, rounded to integers between them."""
    check_whole_box(system, box)
    return tuple([_inner(ends) for ends in told(system, fraction_box(box))])


class WholeGap:
    """What shows that a whole box has no whole solution: two rows that bar its parts around an integer."""

    def __init__(self, one, other, at, value, box):
        self.one = one
        self.other = other
        self.at = at
        self.value = value
        self.box = box


def _nearest(ends, wish):
    """The integer between two ends that is nearest to a wish."""
    low, high = ends
    if low is not None and wish < low:
        return low
    return high if high is not None and wish > high else wish


def chosen_wholes(system, box, order, wishes):
    """The whole point of integers that single rows allow, or a WholeGap."""
    check_whole_box(system, box)
    if barring(system, fraction_box(box)):
        raise Refused("barred")
    left = box
    for at in order:
        ends, (one, other) = told_ends(system, fraction_box(left), at)
        inner = _inner(ends)
        if _is_crossed(inner):
            return WholeGap(one, other, at, inner[1], left)
        left = placed(left, at, _nearest(inner, wishes[at]))
    return tuple([low for low, _ in left])


def is_whole_gap(system, value):
    """Whether any value is a WholeGap that is right for a system."""
    if not isinstance(value, WholeGap) or not _is_whole_box(system, value.box) or not is_whole(value.value):
        return False
    if not all([is_number(number) and number < len(system.rows) for number in (value.one, value.other)]):
        return False
    if not is_number(value.at) or value.at >= len(system.names) or barring(system, fraction_box(value.box)):
        return False
    low, high = value.box[value.at]
    below = (low, value.value if high is None else min(high, value.value))
    above = (value.value + 1 if low is None else max(low, value.value + 1), high)
    # If one part has no points, the other one is the whole box, which no row bars.
    return (bars_box(system.rows[value.one], fraction_box(with_range(value.box, value.at, below)))
            and bars_box(system.rows[value.other], fraction_box(with_range(value.box, value.at, above))))


def rough(system):
    """The lot of the unknowns with a coefficient above 1 in a row and one below -1 in another one."""
    found = []
    for at in range(len(system.names)):
        column = [coefficients[at] for coefficients, _ in system.rows]
        if column and max(column) > 1 and min(column) < -1:
            found.append(at)
    return tuple(found)


def surely_whole(system):
    """Whether a tightened system is single and has no rough unknown, so that it is wholly single."""
    tight = tightened(system)
    return is_single(tight) and not rough(tight)


def whole_gap(system, size):
    """Some right WholeGap with integers up to a size as ends, None if there is none."""
    if not is_number(size):
        raise InvalidNumber("size")
    triples = eliminations(system)
    trials = len(triples)
    for _ in system.names:
        trials = trials * (2 * size + 1) * (size + 1)
    if trials > MOST_TRIALS:
        raise Refused("wide")
    if not triples:
        return None
    for box in _all_boxes(len(system.names), size):
        fractions = fraction_box(box)
        for one, other, at in triples:
            low = _inner(told_by(system.rows[one], fractions, at))[0]
            high = _inner(told_by(system.rows[other], fractions, at))[1]
            if _is_crossed((low, high)) and not barring(system, fractions):
                return WholeGap(one, other, at, high, box)
    return None


def _all_boxes(names, size):
    """All whole boxes with integers up to a size as ends."""
    ranges = [(low, high) for low in range(-size, size + 1) for high in range(low, size + 1)]
    boxes = [()]
    for _ in range(names):
        boxes = [(*box, ends) for box in boxes for ends in ranges]
    return boxes
