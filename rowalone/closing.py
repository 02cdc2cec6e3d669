"""The least single system with given solutions: needless rows, rounds, and what is alike."""

from itertools import combinations

from rowalone.eliminations import eliminated, unlike
from rowalone.equations import opposite
from rowalone.errors import InvalidNumber, Refused
from rowalone.kinds import MOST_ROWS, is_number
from rowalone.papers import check_solution, is_sum_of
from rowalone.programs import point_beyond, point_or_shares
from rowalone.systems import System, left_out, system_of, thinned


def least_single(system):
    """The least single system with the solutions of a system."""
    return rounds(system)[-1]


def parting_solution(one, other):
    """Some solution of a system that is none of another one, None if there is none."""
    if one.names != other.names:
        raise Refused("names")
    for row in other.rows:
        point = point_beyond(len(one.names), one.rows, row)
        if point is not None:
            return point
    return None


def are_alike(one, other):
    """Whether two systems have the same solutions."""
    return parting_solution(one, other) is None and parting_solution(other, one) is None


def needless(system):
    """The lot of the numbers of the rows that are plain sums of the other rows."""
    rows = system.rows
    return tuple([at for at, row in enumerate(rows) if is_sum_of(left_out(rows, at), row)])


def trimmed(system):
    """The system without its needless rows."""
    return System(system.names, needed_rows(system.rows, MOST_ROWS))


def needed_rows(rows, most):
    """The lot of some different rows without the needless ones; more than `most` are refused."""
    left = rows
    kept = []
    for row in rows:
        others = tuple([other for other in left if other != row])
        if is_sum_of(others, row):
            # What is left has the same plain sums.
            left = others
        else:
            kept.append(row)
        if len(kept) > most:
            raise Refused("wide")
    return tuple(sorted(kept))


def round_rows(rows, most):
    """The rows of the next round after a system of some rows; more than `most` are refused."""
    results = {}
    for one, other in combinations(rows, 2):
        for at in unlike(one, other):
            row = eliminated(one, other, at)
            if row is not None:
                results[row] = True
    fresh = [row for row in thinned(list(results)) if not is_sum_of(rows, row)]
    return needed_rows((*rows, *fresh), most)


def rounds(system):
    """The systems from the trimmed one to the least single one, each the next round of the one before."""
    check_solution(system)
    found = []
    rows = needed_rows(system.rows, MOST_ROWS)
    while not found or rows != found[-1]:
        found.append(rows)
        rows = round_rows(rows, MOST_ROWS)
    return tuple([System(system.names, some) for some in found])


def with_row(system, row):
    """The least single system of the rows of a system and one more."""
    return least_single(system_of(system.names, (*system.rows, row)))


def tight_point(system, at):
    """Some solution at which the sum of a row is its bound, None if there is none."""
    if not is_number(at) or at >= len(system.rows):
        raise InvalidNumber("row")
    word, found = point_or_shares(len(system.names), [*system.rows, opposite(system.rows[at])])
    return found if word == "point" else None
