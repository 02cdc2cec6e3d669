"""Exact ranges of unknowns and sums in boxes, and the combinations that show them."""

from rowalone.bars import holds, told
from rowalone.boxes import check_box, in_box, is_point
from rowalone.errors import InvalidPaper, Refused
from rowalone.fractions import fraction_of, is_fraction, less, minus, plus, times, weighed
from rowalone.papers import check_combination, combined, end_rows, is_combination, least_in, point_or_paper
from rowalone.programs import least_over
from rowalone.systems import unit


def shown(system, box, coefficients, numbers):
    """The least sum that a combination shows, None if it shows none."""
    check_box(system, box)
    check_combination(system, numbers)
    return _shown(system, box, coefficients, numbers)


def _shown(system, box, coefficients, numbers):
    """The same for a box and a combination that have been checked."""
    given, total = combined(system, numbers)
    for number, value, (low, high) in zip(coefficients, given, box):
        rest = minus((number, 1), value)
        if rest[0] != 0:
            end = low if rest[0] > 0 else high
            if end is None:
                return None
            total = plus(total, times(rest, end))
    return total


def check_not_empty(system, box):
    """Raise an error if any value is no box, or a box without a solution."""
    if point_or_paper(system, box)[0] == "paper":
        raise Refused("empty")


def least_sum(system, box, coefficients):
    """The least sum at solutions in a box, with a solution and a combination, None if there is none."""
    check_box(system, box)
    word, point, shares = least_in(system, box, coefficients)
    if word == "none":
        raise Refused("empty")
    if word == "endless":
        return None
    return (weighed(coefficients, point), point, shares[:len(system.rows)])


def check_least(system, box, coefficients, value):
    """Raise an error unless any value is a least sum, with a solution and a combination."""
    check_box(system, box)
    if not isinstance(value, tuple) or len(value) != 3:
        raise InvalidPaper(-1)
    least, point, numbers = value
    if not is_fraction(least):
        raise InvalidPaper(0)
    if not is_point(system, point) or not in_box(point, box) or not holds(system, point):
        raise InvalidPaper(1)
    if weighed(coefficients, point) != least:
        raise InvalidPaper(1)
    if not is_combination(system, numbers) or _shown(system, box, coefficients, numbers) != least:
        raise InvalidPaper(2)


def exact_ranges(system, box):
    """For each unknown the least and the greatest fraction at solutions in a box."""
    check_not_empty(system, box)
    return tuple([exact_range(system, box, at) for at in range(len(box))])


def exact_range(system, box, at):
    """The same for one unknown of a box that has a solution."""
    return (_end(system, box, at, 1), _end(system, box, at, -1))


def _end(system, box, at, sign):
    """The least (1) or greatest (-1) fraction of an unknown, None if there is none."""
    word, point, _ = least_in(system, box, unit(len(box), at, sign))
    return point[at] if word == "least" else None


def inexact(system, box):
    """The lot of the ends at which one pass does not tell the exact range."""
    exact = exact_ranges(system, box)
    found = []
    for at, (ends, others) in enumerate(zip(exact, told(system, box))):
        found.extend([(at, side) for side in (0, 1) if ends[side] != others[side]])
    return tuple(found)


def row_bound(system, box, coefficients):
    """The greatest sum that a combination of at most one row shows, with one, None if none shows any."""
    check_not_empty(system, box)
    none = ((0, 1),) * len(system.rows)
    tried = [none]
    for number, row in enumerate(system.rows):
        for one, other in zip(coefficients, row[0]):
            # What a row shows bends only where the rest has a coefficient that becomes 0.
            if one * other > 0:
                tried.append((*none[:number], fraction_of(one, other), *none[number + 1:]))
    return _best([(_shown(system, box, coefficients, numbers), numbers) for numbers in tried])


def _best(tried):
    """The first pair with the greatest value, None if all values are None."""
    best = None
    for value, numbers in tried:
        if value is not None and (best is None or less(best[0], value)):
            best = (value, numbers)
    return best


def plain_bound(system, box, coefficients):
    """The greatest sum that a plain combination shows, with one, None if none shows any."""
    check_not_empty(system, box)
    return _best([_part_bound(system, box, coefficients, part) for part in _plain_parts(system)])


def _plain_parts(system):
    """Lots of rows, in each of which nothing cancels, one within which each such lot lies."""
    parts = [tuple(range(len(system.rows)))]
    for at in range(len(system.names)):
        fewer = {}
        for part in parts:
            for sign in (1, -1):
                fewer[tuple([number for number in part if sign * system.rows[number][0][at] >= 0])] = True
        parts = list(fewer)
    return parts


def _part_bound(system, box, coefficients, part):
    """The greatest sum that the rows of a lot show in which nothing cancels, with a combination."""
    rows = [system.rows[number] for number in part]
    word, point, shares = least_over(len(box), [*rows, *end_rows(box)], coefficients)
    numbers = [(0, 1)] * len(system.rows)
    if word == "endless":
        return (None, tuple(numbers))
    for number, share in zip(part, shares):
        numbers[number] = share
    return (weighed(coefficients, point), tuple(numbers))
