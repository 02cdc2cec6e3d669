"""Flows or cuts: which single row of a cut bars a box, and the least systems of flows."""

from itertools import combinations

from rowalone.bars import bars_box, told_by
from rowalone.boxes import check_box, free_box, is_high_within, is_low_within
from rowalone.errors import Refused
from rowalone.kinds import MOST_ROWS, is_number_lot, is_whole
from rowalone.nets import cut_row, joined_parts
from rowalone.papers import end_rows, is_sum_of
from rowalone.programs import point_or_shares
from rowalone.systems import System, follows


def _cuts(net):
    """All cuts that have a row, with their rows, in tuples."""
    nodes = len(net.needs)
    found = []
    for many in range(1, nodes + 1):
        for some in combinations(range(nodes), many):
            if joined_parts(net, some) == (some,):
                for side in (0, 1):
                    row = cut_row(net, some, side)
                    if row is not None:
                        found.append(((some, side), row))
    return found


def flow_or_cut(net, box):
    """Some flow in a box, or some cut whose row bars it."""
    check_box(net, box)
    rows = []
    for cut, row in _cuts(net):
        if bars_box(row, box):
            return ("cut", cut)
        if len(cut[0]) == 1:
            rows.append(row)
    # The needs of single nodes make all flows. As their rows and those of the ends have a
    # table whose numbers are 1, 0 and -1, its point has integers if all ends are integers.
    return ("flow", point_or_shares(len(net.names), rows + end_rows(box))[1])


def is_barring_cut(net, box, value):
    """Whether any value is a cut whose row bars a box."""
    check_box(net, box)
    if not isinstance(value, tuple) or len(value) != 2:
        return False
    some, side = value
    if not is_number_lot(some, len(net.needs)) or not is_whole(side) or side not in (0, 1):
        return False
    if joined_parts(net, some) != (some,):
        return False
    row = cut_row(net, some, side)
    return row is not None and bars_box(row, box)


def carried(net, box, at):
    """The least and the greatest fraction of a line in flows in a box, and cuts that tell them."""
    if flow_or_cut(net, box)[0] == "cut":
        raise Refused("none")
    low, high = box[at]
    one = None
    other = None
    for cut, row in _cuts(net):
        told_low, told_high = told_by(row, box, at)
        if not is_low_within(low, told_low):
            low = told_low
            one = cut
        if not is_high_within(high, told_high):
            high = told_high
            other = cut
    return (low, high, one, other)


def least_flows(net):
    """The least single system of the flows."""
    if flow_or_cut(net, free_box(net))[0] == "cut":
        raise Refused("none")
    rows = sorted(set([row for _, row in _cuts(net) if any(row[0])]))
    rows = [row for row in rows if not any([follows(other, row) for other in rows if other != row])]
    # The rows of all cuts are a single system; without the needless ones it is the least one.
    kept = []
    for row in rows:
        if not is_sum_of([other for other in rows if other != row], row):
            kept.append(row)
    if len(kept) > MOST_ROWS:
        raise Refused("wide")
    return System(net.names, tuple(kept))
