"""Boxes: pairs of ends for unknowns; and points."""

from rowalone.errors import InvalidBox, InvalidPoint
from rowalone.fractions import is_fraction, less


def is_range(value):
    """Whether any value is a pair of ends, the low at most the high where both are there."""
    if not isinstance(value, tuple) or len(value) != 2:
        return False
    low, high = value
    if not (low is None or is_fraction(low)) or not (high is None or is_fraction(high)):
        return False
    return low is None or high is None or not less(high, low)


def check_box(system, value):
    """Raise an error unless any value is a box of the system."""
    if not isinstance(value, tuple) or len(value) != len(system.names):
        raise InvalidBox(-1)
    for at, ends in enumerate(value):
        if not is_range(ends):
            raise InvalidBox(at)


def is_point(system, value):
    """Whether any value is a point of the system."""
    if not isinstance(value, tuple) or len(value) != len(system.names):
        return False
    return all([is_fraction(number) for number in value])


def check_point(system, value):
    """Raise an error unless any value is a point of the system."""
    if not isinstance(value, tuple) or len(value) != len(system.names):
        raise InvalidPoint(-1)
    for at, number in enumerate(value):
        if not is_fraction(number):
            raise InvalidPoint(at)


def free_box(system):
    """The box without ends."""
    return ((None, None),) * len(system.names)


def point_box(point):
    """The box that has a point alone."""
    return tuple([(value, value) for value in point])


def in_box(point, box):
    """Whether a point is in a box."""
    return within(point_box(point), box)


def is_low_within(low, other):
    """Whether a low, perhaps None, is at least another one."""
    return other is None or (low is not None and not less(low, other))


def is_high_within(high, other):
    """Whether a high, perhaps None, is at most another one."""
    return other is None or (high is not None and not less(other, high))


def within(box, other):
    """Whether all points in a box are in another one."""
    for ends, others in zip(box, other):
        if not is_low_within(ends[0], others[0]) or not is_high_within(ends[1], others[1]):
            return False
    return True


def greater_low(one, other):
    """The sharper one of two lows, None if none is there."""
    return one if is_low_within(one, other) else other


def lesser_high(one, other):
    """The sharper one of two highs, None if none is there."""
    return one if is_high_within(one, other) else other


def common_box(box, other):
    """The box of the points that are in two boxes, None if there are none."""
    common = []
    for ends, others in zip(box, other):
        low = greater_low(ends[0], others[0])
        high = lesser_high(ends[1], others[1])
        if low is not None and high is not None and less(high, low):
            return None
        common.append((low, high))
    return tuple(common)


def joined_box(box, other):
    """The least box that two boxes are within."""
    joined = []
    for ends, others in zip(box, other):
        low = others[0] if is_low_within(ends[0], others[0]) else ends[0]
        high = others[1] if is_high_within(ends[1], others[1]) else ends[1]
        joined.append((low, high))
    return tuple(joined)


def box_ends(box):
    """The lot of the ends that are there."""
    return tuple([(at, side) for at, ends in enumerate(box) for side in (0, 1) if ends[side] is not None])


def only_ends(box, ends):
    """The box with those of its ends alone that are in a lot."""
    kept = []
    for at, (low, high) in enumerate(box):
        kept.append((low if (at, 0) in ends else None, high if (at, 1) in ends else None))
    return tuple(kept)


def with_range(box, at, ends):
    """The box with other ends for one unknown."""
    return (*box[:at], ends, *box[at + 1:])


def placed(box, at, value):
    """The box in which both ends of one unknown are a fraction."""
    return with_range(box, at, (value, value))


def halves(box, at, value):
    """The boxes of the points with at most, and at least, a fraction for one unknown."""
    half = with_range(((None, None),) * len(box), at, (None, value))
    other = with_range(((None, None),) * len(box), at, (value, None))
    return (common_box(box, half), common_box(box, other))
