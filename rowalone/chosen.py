"""Values chosen one after another, within what single rows tell or within exact ranges."""

from rowalone.bars import barring, told_ends
from rowalone.boxes import is_high_within, is_low_within, placed
from rowalone.errors import Refused
from rowalone.fractions import less
from rowalone.ranges import check_not_empty, exact_range


class Stuck:
    """Where a choice ends: a box that no row bars, an unknown, and two rows that leave nothing for it."""

    def __init__(self, box, at, one, other):
        self.box = box
        self.at = at
        self.one = one
        self.other = other


def _nearest(low, high, wish):
    """The fraction between two ends that is nearest to a wish."""
    if not is_low_within(wish, low):
        return low
    return wish if is_high_within(wish, high) else high


def _point_of(box):
    """The point in a box that has no other one."""
    return tuple([low for low, _ in box])


def chosen(system, box, order, wishes):
    """The point of values that single rows allow, or a Stuck."""
    if barring(system, box):
        raise Refused("barred")
    left = box
    for at in order:
        (low, high), (one, other) = told_ends(system, left, at)
        if low is not None and high is not None and less(high, low):
            return Stuck(left, at, one, other)
        left = placed(left, at, _nearest(low, high, wishes[at]))
    return _point_of(left)


def nearest_solution(system, box, order, wishes):
    """The solution in a box that is nearest to the wishes, for one unknown after another."""
    check_not_empty(system, box)
    left = box
    for at in order:
        low, high = exact_range(system, left, at)
        left = placed(left, at, _nearest(low, high, wishes[at]))
    return _point_of(left)
