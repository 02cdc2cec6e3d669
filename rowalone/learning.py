"""What empty boxes that no row bars teach: rows of the least single system."""

from rowalone.bars import barring
from rowalone.blame import shrunk_blame
from rowalone.boxes import box_ends, check_box
from rowalone.chosen import Stuck, chosen
from rowalone.closing import least_single
from rowalone.errors import Refused
from rowalone.kinds import MOST_ROWS
from rowalone.outer import is_outer_row, outer_row_beyond
from rowalone.papers import check_solution, ends_without
from rowalone.systems import System, is_row


def is_outer(system, row):
    """Whether any value is a row of the least single system."""
    check_solution(system)
    return is_outer_row(system, row)


def unlearned(system):
    """The lot of the rows of the least single system that are no rows of the system."""
    return tuple([row for row in least_single(system).rows if row not in system.rows])


def learned_row(system, box):
    """Some row of the least single system that bars a box by a least lot of ends, if no row of the system does."""
    check_box(system, box)
    check_solution(system)
    if barring(system, box):
        return None
    ends = shrunk_blame(system, box, box_ends(box))
    return None if ends is None else outer_row_beyond(system, box, ends)


def lesson(system, row):
    """Some box that a row to be learned bars, and no other row of the system or of the least single one."""
    least = least_single(system)
    if not is_row(row, len(system.names)) or row in system.rows or row not in least.rows:
        raise Refused("row")
    others = [other for other in sorted(set(system.rows + least.rows)) if other != row]
    # Rows with other signs use ends that the box does not have.
    like = tuple([other for other in others if _has_signs(other, row)])
    if len(like) > MOST_ROWS:
        raise Refused("wide")
    return ends_without(System(system.names, like), row)


def _has_signs(row, other):
    """Whether each coefficient of a row is 0 or has the sign that the one of another row has there."""
    return all([number == 0 or number * wanted > 0 for number, wanted in zip(row[0], other[0])])


def taught(system, box, order, wishes):
    """The rows learned until values can be chosen or a row bars a box, and the point, None if it is empty."""
    check_box(system, box)
    check_solution(system)
    added = ()
    known = system
    while not barring(known, box):
        found = chosen(known, box, order, wishes)
        if not isinstance(found, Stuck):
            return (added, found)
        row = learned_row(known, found.box)
        if len(known.rows) == MOST_ROWS:
            raise Refused("wide")
        added = (*added, row)
        known = System(system.names, tuple(sorted((*known.rows, row))))
    return (added, None)
