"""Systems together: side by side, with one name in common, and sweeps over several ones."""

from rowalone.boxes import check_box, with_range
from rowalone.eliminations import joined_rows, unlike
from rowalone.errors import Refused
from rowalone.kinds import MOST_NAMES, MOST_ROWS
from rowalone.passes import passed
from rowalone.systems import System, system_of
from rowalone.webs import web


def _all_names(systems):
    """The lot of the names of some systems."""
    return tuple(sorted({name for system in systems for name in system.names}))


def _rows_over(system, names):
    """The rows of a system with the coefficient 0 for further names."""
    rows = []
    for coefficients, bound in system.rows:
        numbers = {name: number for name, number in zip(system.names, coefficients)}
        rows.append((tuple([numbers.get(name, 0) for name in names]), bound))
    return rows


def side_by_side(one, other):
    """The system of the rows of two systems without a common name."""
    names = _all_names((one, other))
    if len(names) < len(one.names) + len(other.names) or len(names) > MOST_NAMES:
        raise Refused("names")
    if len(one.rows) + len(other.rows) > MOST_ROWS:
        raise Refused("wide")
    return System(names, tuple(sorted(_rows_over(one, names) + _rows_over(other, names))))


def name_parts(system):
    """The lot of the parts of a system: lots of names that no row binds together."""
    parts = [(at,) for at in range(len(system.names))]
    for lot in web(system):
        near = [part for part in parts if any([at in lot for at in part])]
        joined = tuple(sorted([at for part in near for at in part]))
        parts = [part for part in parts if part not in near] + [joined]
    return tuple(sorted([tuple([system.names[at] for at in part]) for part in parts]))


def glued(one, other):
    """The system of the rows of two systems with one common name, and of what results without it."""
    names = _all_names((one, other))
    common = [name for name in one.names if name in other.names]
    if len(common) != 1 or len(names) > MOST_NAMES:
        raise Refused("names")
    at = names.index(common[0])
    ones = _rows_over(one, names)
    others = _rows_over(other, names)
    results = [joined_rows(row, further, at) for row in ones for further in others if at in unlike(row, further)]
    if any([bound > 0 and not any(coefficients) for coefficients, bound in results]):
        raise Refused("none")
    return system_of(names, tuple(ones + others + results))


def swept(systems, box):
    """The ends of all names after looks at systems that have one name in common each, None without a point."""
    common = _common_names(systems)
    names = _all_names(systems)
    if len(names) > MOST_NAMES:
        raise Refused("names")
    check_box(System(names, ()), box)
    # Back to the second system what the names in common have is told; then it is told to all.
    back = [(system, (name,)) for system, name in zip(systems[1:], common)][::-1]
    forth = [(system, system.names) for system in systems]
    ends = box
    for system, some in back + forth:
        ends = _after_look(names, system, some, ends)
        if ends is None:
            return None
    return ends


def _common_names(systems):
    """For each system but the first its one name in common with all earlier ones."""
    found = []
    earlier = list(systems[0].names)
    for system in systems[1:]:
        common = [name for name in system.names if name in earlier]
        if len(common) != 1:
            raise Refused("names")
        found.append(common[0])
        earlier.extend(system.names)
    return found


def _after_look(names, system, some, ends):
    """The ends of all names after one look, which replaces those of some names; None without a point."""
    places = [names.index(name) for name in system.names]
    part = tuple([ends[place] for place in places])
    # If a row bars the ends, a told low is above a told high.
    after = passed(system, part)
    if after is None:
        return None
    found = ends
    for name, place, told_ends in zip(system.names, places, after):
        if name in some:
            found = with_range(found, place, told_ends)
    return found
