"""Passes and runs of single rows over boxes, and boxes that they leave as they are."""

from rowalone.bars import narrowed, told, top, used_ends
from rowalone.boxes import box_ends, check_box, with_range
from rowalone.errors import InvalidNumber, Refused
from rowalone.fractions import fraction_of, less, plus, times
from rowalone.kinds import is_number

MOST_PASSES = 100


def passed(system, box):
    """The box of the told ends, None if some told low is above its told high."""
    ends = told(system, box)
    for low, high in ends:
        if low is not None and high is not None and less(high, low):
            return None
    return ends


def passes(system, box, most):
    """A box and what passes leave of it, one after another."""
    check_box(system, box)
    if not is_number(most) or most > MOST_PASSES:
        raise InvalidNumber("most")
    found = [box]
    while len(found) <= most:
        after = passed(system, found[-1])
        if after == found[-1]:
            break
        found.append(after)
        if after is None:
            break
    return tuple(found)


def run(system, box, numbers):
    """The box narrowed by rows, one after another, None as soon as one bars it."""
    check_box(system, box)
    if not isinstance(numbers, tuple) or not all([is_number(number) for number in numbers]):
        raise Refused("numbers")
    if not all([number < len(system.rows) for number in numbers]):
        raise Refused("numbers")
    left = box
    for number in numbers:
        left = narrowed(system.rows[number], left)
        if left is None:
            return None
    return left


def rests(system, box):
    """Whether a pass leaves a box as it is."""
    return passed(system, box) == box


def turned_top(row, box, at):
    """The top of a row, but with the other end of one unknown, None if an end is not there."""
    low, high = box[at]
    return top(row, with_range(box, at, (high, low)))


def center(box):
    """The point in the middle of all ends."""
    point = []
    for low, high in box:
        if low is None or high is None:
            raise Refused("endless")
        point.append(times(plus(low, high), fraction_of(1, 2)))
    return tuple(point)


def bounded_ends(system, box):
    """The lot of the ends that a box has, or that rows tell from such ends alone."""
    check_box(system, box)
    found = box_ends(box)
    while True:
        further = _told_from(system, found)
        if not further:
            return found
        found = tuple(sorted((*found, *further)))


def _told_from(system, ends):
    """Further ends that single rows tell from some ends."""
    further = {}
    for row in system.rows:
        used = used_ends(row)
        for at, side in used:
            if all([end in ends for end in used if end[0] != at]) and (at, 1 - side) not in ends:
                # Of each unknown a row tells the end that its top does not use.
                further[(at, 1 - side)] = True
    return list(further)
