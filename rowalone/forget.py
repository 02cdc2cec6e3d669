"""Choices of values for some names, and systems with names left out."""

from rowalone.closing import least_single
from rowalone.eliminations import all_triples, eliminated, joined_rows
from rowalone.errors import InvalidPoint, Refused
from rowalone.fractions import is_fraction
from rowalone.kinds import is_rising
from rowalone.papers import point_or_paper
from rowalone.programs import point_beyond
from rowalone.systems import System
from rowalone.webs import web


def choice_box(system, choice):
    """The box in which the chosen names have their fractions, and the others no ends."""
    if not isinstance(choice, tuple) or len(choice) != len(system.names):
        raise InvalidPoint(-1)
    for at, value in enumerate(choice):
        if value is not None and not is_fraction(value):
            raise InvalidPoint(at)
    return tuple([(value, value) for value in choice])


def carried_on(system, choice):
    """Some solution that has the fractions of a choice, or some paper for its box."""
    return point_or_paper(system, choice_box(system, choice))


def stuck_choice(system):
    """Some choice that cannot be carried on although no row bars its box, None if there is none."""
    lots = web(system)
    triples = []
    for one, other, at in all_triples(system):
        names = sorted(set(lots[one] + lots[other]))
        triples.append((len(names), one, other, at, tuple([name for name in names if name != at])))
    # Triples with fewer names first: the rows written in the other names are then single.
    for _, one, other, at, others in sorted(triples):
        choice = _lost_choice(system, (one, other, at), others)
        if choice is not None:
            return choice
    return None


def _lost_choice(system, triple, names):
    """A choice for some names that no row written in them bars, but the eliminated row of a triple."""
    one, other, at = triple
    size = len(system.names)
    row = eliminated(system.rows[one], system.rows[other], at)
    if row is None:
        bound = joined_rows(system.rows[one], system.rows[other], at)[1]
        return (None,) * size if bound > 0 else None
    written = [some for some, lot in zip(system.rows, web(system)) if all([name in names for name in lot])]
    point = point_beyond(size, written, row)
    if point is None:
        return None
    return tuple([value if name in names else None for name, value in enumerate(point)])


def _check_names(system, names):
    """Raise an error unless any value is a lot of some names of the system, but not of all."""
    if not isinstance(names, tuple) or not 1 <= len(names) < len(system.names):
        raise Refused("names")
    if not all([isinstance(name, str) and name in system.names for name in names]) or not is_rising(names):
        raise Refused("names")


def restriction(system, names):
    """The system over some of its names of the rows that are written in them."""
    places = [system.names.index(name) for name in names]
    rows = []
    for row, lot in zip(system.rows, web(system)):
        if all([at in places for at in lot]):
            rows.append((tuple([row[0][at] for at in places]), row[1]))
    return System(names, tuple(sorted(rows)))


def struck(system, names):
    """The system over the other names of the rows that have no coefficient at some names."""
    _check_names(system, names)
    return restriction(system, tuple([name for name in system.names if name not in names]))


def forgotten(system, names):
    """The least single system over the other names whose solutions are those that can be carried on."""
    _check_names(system, names)
    return struck(least_single(system), names)
