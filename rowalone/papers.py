"""Combinations of rows: papers, which show that a box is empty, and plain sums."""

from rowalone.bars import bars_box
from rowalone.boxes import check_box
from rowalone.eliminations import joined_rows
from rowalone.errors import InvalidPaper, Refused
from rowalone.fractions import is_fraction, less, weighed
from rowalone.programs import least_over, point_beyond, point_or_shares
from rowalone.systems import least_form, unit, whole_sums


def check_combination(system, value):
    """Raise an error unless any value is a combination."""
    if not isinstance(value, tuple) or len(value) != len(system.rows):
        raise InvalidPaper(-1)
    for at, number in enumerate(value):
        if not is_fraction(number) or number[0] < 0:
            raise InvalidPaper(at)


def is_combination(system, value):
    """Whether any value is a combination."""
    try:
        check_combination(system, value)
    except InvalidPaper:
        return False
    return True


def used_rows(numbers):
    """The numbers of the rows that a combination uses."""
    return [at for at, number in enumerate(numbers) if number[0] > 0]


def combined(system, numbers):
    """What a combination gives: a fraction for each name, and one for the bound."""
    coefficients = []
    for at in range(len(system.names)):
        coefficients.append(weighed([row[0][at] for row in system.rows], numbers))
    return (tuple(coefficients), weighed([row[1] for row in system.rows], numbers))


def cancelled(system, numbers):
    """For each name the lesser one of the sums of the positive and of the negative coefficients."""
    found = []
    for at in range(len(system.names)):
        column = [row[0][at] for row in system.rows]
        positive = weighed([max(number, 0) for number in column], numbers)
        negative = weighed([max(-number, 0) for number in column], numbers)
        found.append(negative if less(negative, positive) else positive)
    return tuple(found)


def is_plain(system, numbers):
    """Whether nothing cancels in a combination."""
    return all([value == (0, 1) for value in cancelled(system, numbers)])


def is_paper(system, box, numbers):
    """Whether a combination is a paper for a box."""
    coefficients, bound = combined(system, numbers)
    return bars_box(whole_sums(coefficients, bound), box)


def check_paper(system, box, value):
    """Raise an error unless any value is a paper for a box."""
    check_box(system, box)
    check_combination(system, value)
    if not is_paper(system, box, value):
        raise InvalidPaper(len(system.rows))


def end_rows(box):
    """The rows of the ends of a box."""
    rows = []
    for at, (low, high) in enumerate(box):
        if low is not None:
            rows.append((unit(len(box), at, low[1]), low[0]))
        if high is not None:
            rows.append((unit(len(box), at, -high[1]), -high[0]))
    return rows


def least_in(system, box, coefficients):
    """The least sum of coefficients at solutions in a box, as `least_over` tells it; of the
    shares those of the rows of the system come first."""
    return least_over(len(system.names), [*system.rows, *end_rows(box)], coefficients)


def has_solution(system):
    """Whether a system has a solution."""
    return point_or_shares(len(system.names), system.rows)[0] == "point"


def check_solution(system):
    """Raise an error if a system has no solution."""
    if not has_solution(system):
        raise Refused("none")


def point_or_paper(system, box):
    """Some solution in a box, or some paper for it."""
    check_box(system, box)
    return _point_or_paper(system, box, list(range(len(system.rows))))


def _point_or_paper(system, box, part):
    """The same for some rows of the system alone."""
    rows = [system.rows[at] for at in part] + end_rows(box)
    word, found = point_or_shares(len(system.names), rows)
    if word == "point":
        return ("point", found)
    numbers = [(0, 1)] * len(system.rows)
    for at, share in zip(part, found):
        numbers[at] = share
    return ("paper", tuple(numbers))


def shortened(system, box, paper):
    """Some paper that uses only rows of a paper, of which none can be left out."""
    check_paper(system, box, paper)
    numbers = _point_or_paper(system, box, used_rows(paper))[1]
    for at in used_rows(numbers):
        part = [other for other in used_rows(numbers) if other != at]
        if len(part) < len(used_rows(numbers)):
            word, found = _point_or_paper(system, box, part)
            if word == "paper":
                numbers = found
    return numbers


def plain_sum(system, row):
    """Some plain combination that gives a row and uses few rows, None if there is none."""
    part = _conforming(system.rows, row)
    word, point, shares = _least_kept(system.rows, part, row)
    if not _is_reached(word, point, row):
        return None
    numbers = [(0, 1)] * len(system.rows)
    for at, share in zip(part, shares):
        numbers[at] = share
    return tuple(numbers)


def is_sum_of(rows, row):
    """Whether a row is a plain sum of some rows, however many."""
    word, point, _ = _least_kept(rows, _conforming(rows, row), row)
    return _is_reached(word, point, row)


def elimination_sum(system, triple):
    """Some plain combination that gives the eliminated row of a triple, None if there is none."""
    one, other, at = triple
    coefficients, bound = joined_rows(system.rows[one], system.rows[other], at)
    row = least_form(coefficients, bound)
    if row is not None:
        return plain_sum(system, row)
    return ((0, 1),) * len(system.rows) if bound <= 0 else None


def _conforming(rows, row):
    """The numbers of the rows whose coefficients are 0 or have the sign that a row has there.

    Just these may be used where nothing cancels and the row is given.
    """
    part = []
    for at, (coefficients, _) in enumerate(rows):
        if all([one * other > 0 or one == 0 for one, other in zip(coefficients, row[0])]):
            part.append(at)
    return part


def _least_kept(rows, part, row):
    """The least sum of a row over the points that keep some of the rows."""
    return least_over(len(row[0]), [rows[at] for at in part], row[0])


def _is_reached(word, point, row):
    """Whether a least sum, at a point, is at least the bound of a row."""
    return word == "least" and not less(weighed(row[0], point), (row[1], 1))


def check_plain(system, row, value):
    """Raise an error unless any value is a plain combination that gives a row."""
    check_combination(system, value)
    coefficients, bound = combined(system, value)
    wanted = tuple([(number, 1) for number in row[0]])
    if not is_plain(system, value) or coefficients != wanted or less(bound, (row[1], 1)):
        raise InvalidPaper(len(system.rows))


def ends_without(system, row):
    """Some box that a row bars and no row of the system, None if the row is a plain sum."""
    part = _conforming(system.rows, row)
    point = point_beyond(len(row[0]), [system.rows[at] for at in part], row)
    if point is None:
        return None
    box = []
    for number, value in zip(row[0], point):
        box.append((value if number < 0 else None, value if number > 0 else None))
    return tuple(box)
