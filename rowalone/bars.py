"""Single rows over boxes: tops, which boxes they bar, and what they tell."""

from rowalone.boxes import check_box, check_point, is_high_within, is_low_within
from rowalone.errors import Refused
from rowalone.fractions import fraction_of, less, minus, plus, ratio, simplest, times, weighed


def row_sum(row, point):
    """The sum of the coefficients times the fractions of a point."""
    return weighed(row[0], point)


def keeps(row, point):
    """Whether a point keeps a row."""
    return not less(row_sum(row, point), (row[1], 1))


def holds(system, point):
    """Whether a point is a solution."""
    check_point(system, point)
    return all([keeps(row, point) for row in system.rows])


def top(row, box):
    """The greatest sum at points in a box, None if there is none."""
    return _sum_of_ends(row, box, 1)


def bottom(row, box):
    """The least sum at points in a box, None if there is none."""
    return _sum_of_ends(row, box, 0)


def _sum_of_ends(row, box, side):
    """The sum of a row at the low or high ends of its terms, None if one of them is not there."""
    ends = []
    for coefficient, pair in zip(row[0], box):
        end = pair[side] if coefficient > 0 else pair[1 - side]
        if coefficient != 0 and end is None:
            return None
        ends.append(end)
    return weighed(row[0], ends)


def top_point(row, box):
    """Some point in a box whose sum is the top, None if there is no top."""
    point = []
    for coefficient, (low, high) in zip(row[0], box):
        value = simplest(low, high)
        if coefficient != 0:
            value = high if coefficient > 0 else low
        if value is None:
            return None
        point.append(value)
    return tuple(point)


def bars_box(row, box):
    """Whether a row bars a box."""
    greatest = top(row, box)
    return greatest is not None and less(greatest, (row[1], 1))


def used_ends(row):
    """The lot of the ends that the top of a row depends on."""
    return tuple([(at, 1 if number > 0 else 0) for at, number in enumerate(row[0]) if number != 0])


def barring(system, box):
    """The lot of the numbers of the rows that bar a box."""
    check_box(system, box)
    return tuple([at for at, row in enumerate(system.rows) if bars_box(row, box)])


def told_by(row, box, at):
    """The ends of a box for one unknown, of which a row may replace one."""
    low, high = box[at]
    coefficients, bound = row
    if coefficients[at] == 0:
        return (low, high)
    others = (*coefficients[:at], 0, *coefficients[at + 1:])
    greatest = top((others, bound), box)
    if greatest is None:
        return (low, high)
    value = ratio(minus((bound, 1), greatest), (coefficients[at], 1))
    if coefficients[at] > 0:
        return (value if is_low_within(value, low) else low, high)
    return (low, value if is_high_within(value, high) else high)


def narrowed(row, box):
    """The least box with all points of a box that keep a row, None if there are none."""
    if bars_box(row, box):
        return None
    return tuple([told_by(row, box, at) for at in range(len(box))])


def told(system, box):
    """For each unknown the greatest low and the least high that a row tells."""
    check_box(system, box)
    return tuple([told_ends(system, box, at)[0] for at in range(len(box))])


def reasons(system, box):
    """For each unknown the first rows that tell its told low and its told high."""
    check_box(system, box)
    return tuple([told_ends(system, box, at)[1] for at in range(len(box))])


def told_ends(system, box, at):
    """The told ends of one unknown, and the first rows that tell them."""
    low, high = box[at]
    one = None
    other = None
    for number, row in enumerate(system.rows):
        told_low, told_high = told_by(row, box, at)
        if not is_low_within(low, told_low):
            low = told_low
            one = number
        if not is_high_within(high, told_high):
            high = told_high
            other = number
    return ((low, high), (one, other))


def crossing(system, box):
    """The first unknown with a told low above its told high, with their mean and reasons."""
    if barring(system, box):
        raise Refused("barred")
    for at in range(len(box)):
        (low, high), (one, other) = told_ends(system, box, at)
        if low is not None and high is not None and less(high, low):
            return (at, times(plus(low, high), fraction_of(1, 2)), one, other)
    return None
