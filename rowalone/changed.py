"""Systems with a value put in, an unknown doubled, or two unknowns made one."""

from rowalone.eliminations import all_triples
from rowalone.errors import InvalidNumber, Refused
from rowalone.fractions import is_fraction
from rowalone.kinds import MOST_NAMES, is_name
from rowalone.papers import elimination_sum
from rowalone.systems import System, left_out, system_of, unknown_of


def put_in(system, name, value):
    """The system over the other names in which an unknown has a value."""
    at = unknown_of(system, name)
    if not is_fraction(value):
        raise InvalidNumber("value")
    if len(system.names) == 1:
        raise Refused("names")
    top, bottom = value
    rows = []
    for coefficients, bound in system.rows:
        numbers = tuple([number * bottom for number in left_out(coefficients, at)])
        rows.append((numbers, bound * bottom - coefficients[at] * top))
    return system_of(left_out(system.names, at), tuple(rows))


def doubled(system, name, other):
    """The system in which an unknown is replaced by the sum of itself and of a new one."""
    at = unknown_of(system, name)
    if not is_name(other) or other in system.names or len(system.names) == MOST_NAMES:
        raise Refused("other")
    names = tuple(sorted((*system.names, other)))
    place = names.index(other)
    rows = []
    for coefficients, bound in system.rows:
        rows.append(((*coefficients[:place], coefficients[at], *coefficients[place:]), bound))
    return System(names, tuple(sorted(rows)))


def made_one(system, name, other):
    """The system in which two unknowns are the same one."""
    at = unknown_of(system, name)
    if not isinstance(other, str) or other not in system.names or other == name:
        raise Refused("other")
    place = system.names.index(other)
    rows = []
    for coefficients, bound in system.rows:
        numbers = list(coefficients)
        numbers[at] = coefficients[at] + coefficients[place]
        rows.append((left_out(tuple(numbers), place), bound))
    return system_of(left_out(system.names, place), tuple(rows))


def lost_at(system, name):
    """The lot of the triples with an unknown whose eliminated row is no plain sum."""
    at = unknown_of(system, name)
    triples = [triple for triple in all_triples(system) if triple[2] == at]
    return tuple([triple for triple in triples if elimination_sum(system, triple) is None])
