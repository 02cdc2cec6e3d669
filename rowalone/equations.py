"""Systems of equations: their least lots and least equations."""

from itertools import combinations

from rowalone.errors import Refused
from rowalone.kinds import is_number_lot
from rowalone.systems import System, common_divisor, least_form, system_of


def opposite(row):
    """The row in which the bound and all coefficients have the other sign."""
    return (tuple([-number for number in row[0]]), -row[1])


def is_equal(system):
    """Whether a system is one of equations."""
    return all([opposite(row) in system.rows for row in system.rows])


def equal_system(names, rows):
    """The system of any rows that are given ones and their opposites."""
    return system_of(names, rows + tuple([opposite(row) for row in rows]))


def least_lots(system):
    """The lot of the least lots of a system of equations."""
    sums = _settled_sums(system)
    return tuple(sorted(_lots(sums, len(system.names))))


def least_equations(system):
    """The least single system of a system of equations."""
    sums = _settled_sums(system)
    rows = []
    for lot in _lots(sums, len(system.names)):
        numbers = _sums_within(sums, lot)[0]
        row = least_form(tuple(numbers[:-1]), numbers[-1])
        rows.extend([row, opposite(row)])
    return System(system.names, tuple(sorted(rows)))


def is_free(system, lot):
    """Whether the unknowns in a lot may have any fractions."""
    if not is_number_lot(lot, len(system.names)):
        raise Refused("lot")
    return not _sums_within(_settled_sums(system), lot)


def _settled_sums(system):
    """Independent settled sums that make all others, each a list with its value as last item."""
    if not is_equal(system):
        raise Refused("rows")
    rows = [[*coefficients, bound] for coefficients, bound in system.rows]
    sums = echelon(rows, tuple(range(len(system.names) + 1)))
    if not all([any(numbers[:-1]) for numbers in sums]):
        raise Refused("none")
    return sums


def _lots(sums, size):
    """The least lots, those with fewer unknowns first."""
    found = []
    for many in range(1, size + 1):
        for lot in combinations(range(size), many):
            smaller = [one for one in found if all([at in lot for at in one])]
            if not smaller and _sums_within(sums, lot):
                found.append(lot)
    return found


def _sums_within(sums, lot):
    """Independent settled sums that make all those with coefficients in a lot alone."""
    if not sums:
        return []
    others = [at for at in range(len(sums[0]) - 1) if at not in lot]
    rows = echelon(sums, (*others, *lot))
    return [numbers for numbers in rows if not any([numbers[at] for at in others])]


def echelon(rows, order):
    """Independent combinations of rows of numbers, each without the places before its own one."""
    left = rows
    found = []
    for at in order:
        pivots = [numbers for numbers in left if numbers[at] != 0]
        if pivots:
            found.append(pivots[0])
            left = [_without(numbers, pivots[0], at) for numbers in left]
    return found


def _without(numbers, pivot, at):
    """A combination of two rows of numbers that is 0 at a place, without common divisors."""
    rest = [pivot[at] * one - numbers[at] * other for one, other in zip(numbers, pivot)]
    divisor = common_divisor(rest)
    return [number // divisor for number in rest] if divisor > 1 else rest
