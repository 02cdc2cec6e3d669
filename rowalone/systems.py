"""Systems of rows, and rows alone."""

from math import gcd, lcm

from rowalone.errors import InvalidNumber, InvalidSystem, Refused
from rowalone.fractions import fraction_of, greatest_of, is_fraction, less, plus, ratio, times
from rowalone.kinds import MOST_ROWS, is_name, is_name_lot, is_whole


class System:
    """Names for unknowns, and the rows that bind them."""

    def __init__(self, names, rows):
        if not is_name_lot(names) or not isinstance(rows, tuple):
            raise InvalidSystem(-1)
        for at, row in enumerate(rows):
            if at == MOST_ROWS or not is_row(row, len(names)):
                raise InvalidSystem(at)
            if at > 0 and row <= rows[at - 1]:
                raise InvalidSystem(at)
        self.names = names
        self.rows = rows

    def __eq__(self, other):
        return isinstance(other, System) and self.names == other.names and self.rows == other.rows


def unit(size, at, number):
    """The coefficients with a number at one place and 0 at all others."""
    return (*(0,) * at, number, *(0,) * (size - at - 1))


def left_out(items, at):
    """A tuple without the item at a place."""
    return (*items[:at], *items[at + 1:])


def common_divisor(numbers):
    """The greatest number that divides all of some integers, 0 if all are 0."""
    divisor = 0
    for number in numbers:
        divisor = gcd(divisor, number)
    return divisor


def is_row(value, size):
    """Whether any value is a row for so many names."""
    if not isinstance(value, tuple) or len(value) != 2:
        return False
    coefficients, bound = value
    if not isinstance(coefficients, tuple) or len(coefficients) != size:
        return False
    if not is_whole(bound) or not all([is_whole(number) for number in coefficients]):
        return False
    return any(coefficients) and common_divisor((*coefficients, bound)) == 1


def least_form(coefficients, bound):
    """The row that the same points keep, None if all coefficients are 0."""
    if not any(coefficients):
        return None
    divisor = common_divisor((*coefficients, bound))
    return (tuple([number // divisor for number in coefficients]), bound // divisor)


def whole_sums(coefficients, bound):
    """Fractions as integers: all of them times one number, not in least form."""
    factor = bound[1]
    for value in coefficients:
        factor = lcm(factor, value[1])
    numbers = tuple([value[0] * (factor // value[1]) for value in coefficients])
    return (numbers, bound[0] * (factor // bound[1]))


def row_of(coefficients, bound):
    """The row that the same points keep, for fractions, None if all coefficients are 0."""
    numbers, number = whole_sums(coefficients, bound)
    return least_form(numbers, number)


def first_unknown(coefficients):
    """The first place with a coefficient other than 0."""
    for at, coefficient in enumerate(coefficients):
        if coefficient != 0:
            return at
    return None


def factor_between(one, other):
    """The fraction that times the coefficients `one` makes `other`, None if there is none."""
    at = first_unknown(one)
    for number, wanted in zip(one, other):
        if number * other[at] != wanted * one[at]:
            return None
    return fraction_of(other[at], one[at])


def follows(one, other):
    """Whether each point that keeps a row keeps another one."""
    factor = factor_between(one[0], other[0])
    if factor is None or factor[0] <= 0:
        return False
    return not less(times((one[1], 1), factor), (other[1], 1))


def parting_point(one, other):
    """Some point that keeps a row and not another one, None if there is none."""
    factor = factor_between(one[0], other[0])
    if factor is None:
        return _point_between(one, other)
    if follows(one, other):
        return None
    value = (one[1], 1)
    if factor[0] < 0:
        # A great sum of the first row makes the sum of the other one small.
        value = plus(greatest_of((value, ratio((other[1], 1), factor))), (1, 1))
    return _point_with(one[0], value)


def _point_with(coefficients, value):
    """A point at which the sum of the coefficients is a fraction."""
    place = first_unknown(coefficients)
    point = [(0, 1)] * len(coefficients)
    point[place] = ratio(value, (coefficients[place], 1))
    return tuple(point)


def _point_between(one, other):
    """A point with the bound of a row as its sum, and one less than that of another one.

    The coefficients of the two rows differ by no factor, so two places determine it.
    """
    size = len(one[0])
    for first in range(size):
        for second in range(first + 1, size):
            whole = one[0][first] * other[0][second] - one[0][second] * other[0][first]
            if whole != 0:
                wanted = other[1] - 1
                point = [(0, 1)] * size
                point[first] = fraction_of(one[1] * other[0][second] - wanted * one[0][second], whole)
                point[second] = fraction_of(wanted * one[0][first] - one[1] * other[0][first], whole)
                return tuple(point)
    return None


def system_of(names, rows):
    """The system of any rows, without those that follow from others."""
    for coefficients, bound in rows:
        if bound > 0 and not any(coefficients):
            raise Refused("zero")
    kept = thinned(rows)
    if len(kept) > MOST_ROWS:
        raise Refused("wide")
    return System(names, kept)


def thinned(rows):
    """The lot of any rows in least form, without those that follow from others or have no coefficients."""
    bounds = {}
    for coefficients, bound in rows:
        if any(coefficients):
            divisor = common_divisor(coefficients)
            # Rows that follow from each other have the same coefficients without a common divisor.
            pattern = tuple([number // divisor for number in coefficients])
            value = fraction_of(bound, divisor)
            if pattern not in bounds or less(bounds[pattern], value):
                bounds[pattern] = value
    kept = []
    for pattern, value in bounds.items():
        kept.append((tuple([number * value[1] for number in pattern]), value[0]))
    return tuple(sorted(kept))


def unknown_of(system, name):
    """The number of the unknown with a name, for any value as the name."""
    if not isinstance(name, str) or name not in system.names:
        raise Refused("name")
    return system.names.index(name)


def renamed(system, names):
    """The system in which each unknown has its value in a dict as its name."""
    fresh = []
    for name in system.names:
        if name not in names or not is_name(names[name]) or names[name] in fresh:
            raise Refused("names")
        fresh.append(names[name])
    order = [fresh.index(name) for name in sorted(fresh)]
    rows = [(tuple([row[0][at] for at in order]), row[1]) for row in system.rows]
    return System(tuple(sorted(fresh)), tuple(sorted(rows)))


def turned(system, name):
    """The system whose solutions are those with one unknown times -1."""
    at = unknown_of(system, name)
    rows = []
    for coefficients, bound in system.rows:
        rows.append(((*coefficients[:at], -coefficients[at], *coefficients[at + 1:]), bound))
    return System(system.names, tuple(sorted(rows)))


def scaled(system, name, factor):
    """The system whose solutions are those with one unknown divided by a factor."""
    at = unknown_of(system, name)
    if not is_fraction(factor) or factor[0] <= 0:
        raise InvalidNumber("factor")
    top, bottom = factor
    rows = []
    for coefficients, bound in system.rows:
        numbers = [number * bottom for number in coefficients]
        numbers[at] = coefficients[at] * top
        rows.append(least_form(tuple(numbers), bound * bottom))
    return System(system.names, tuple(sorted(rows)))
