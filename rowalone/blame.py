"""Which ends of a box are to blame that it is empty, and which ends force another one."""

from rowalone.bars import bars_box, told_by, used_ends
from rowalone.boxes import box_ends, check_box, is_high_within, is_low_within, only_ends, with_range
from rowalone.papers import combined, end_rows, point_or_paper
from rowalone.programs import point_beyond
from rowalone.systems import unit, whole_sums


def is_to_blame(system, box, ends):
    """Whether the ends of a box that are in a lot leave no solution."""
    check_box(system, box)
    return _solution(system, only_ends(box, ends)) is None


def _solution(system, box):
    """Some solution in a box, None if there is none."""
    word, found = point_or_paper(system, box)
    return found if word == "point" else None


def shrunk_blame(system, box, ends):
    """Some least lot to blame with ends of a lot alone, None if there is none."""
    check_box(system, box)
    word, paper = point_or_paper(system, only_ends(box, ends))
    if word == "point":
        return None
    coefficients, bound = combined(system, paper)
    # The ends that the paper needs are to blame already, and are few.
    needed = used_ends(whole_sums(coefficients, bound))
    found = needed
    for end in needed:
        fewer = tuple([other for other in found if other != end])
        if is_to_blame(system, box, fewer):
            found = fewer
    return found


def all_blames(system, box):
    """The lot of all least lots to blame."""
    check_box(system, box)
    return _least_without(box, lambda part: _solution(system, part))


def _least_without(box, witness):
    """The lot of the least lots of ends with which alone a box has no witness.

    `witness` returns some point in a box, or None. No least lot has both ends of an unknown.
    """
    ends = box_ends(box)
    found = []
    kept = []
    for lot in _lots_to_try(box):
        bits = _bits(ends, lot)
        if not any([one & ~bits == 0 for one in found]) and not any([bits & ~one == 0 for one in kept]):
            point = witness(only_ends(box, lot))
            if point is None:
                found.append(bits)
            else:
                kept.append(_bits(ends, _kept_ends(box, point)))
    return tuple(sorted([_lot(ends, bits) for bits in found]))


def _lots_to_try(box):
    """All lots with at most one end of each unknown, those with fewer ends first."""
    lots = [()]
    for at, ends in enumerate(box):
        longer = [(*lot, (at, side)) for lot in lots for side in (0, 1) if ends[side] is not None]
        lots = lots + longer
    return sorted(lots, key=len)


def _kept_ends(box, point):
    """The ends of a box that a point keeps."""
    kept = []
    for at, side in box_ends(box):
        if is_sharp(point[at], box[at][side], side):
            kept.append((at, side))
    return kept


def is_sharp(value, other, side):
    """Whether a low is at least, or a high at most, another one."""
    return is_low_within(value, other) if side == 0 else is_high_within(value, other)


def _bits(ends, some):
    """A number with a bit for each of some ends of a lot."""
    return sum([1 << place for place, end in enumerate(ends) if end in some])


def _lot(ends, bits):
    """The lot of those ends of a lot that have a bit."""
    return tuple([end for place, end in enumerate(ends) if bits & (1 << place)])


def all_loosenings(system, box):
    """The lot of all least loosenings."""
    return least_hits(all_blames(system, box))


def least_hits(lots):
    """The lot of the least lots that have an end in common with each of some lots."""
    ends = sorted({end for lot in lots for end in lot})
    hits = [0]
    for lot in lots:
        hits = _longer_hits(hits, [_bits(ends, (end,)) for end in lot])
    return tuple(sorted([_lot(ends, bits) for bits in hits]))


def _longer_hits(hits, bits):
    """The least lots that hit one lot more; all lots as bits."""
    whole = sum(bits)
    kept = [hit for hit in hits if hit & whole]
    longer = []
    for hit in hits:
        if not hit & whole:
            for bit in bits:
                if not any([one & ~(hit | bit) == 0 for one in kept]):
                    longer.append(hit | bit)
    return kept + longer


def row_blames(system, box):
    """The least lots of the ends that the rows use which bar a box."""
    check_box(system, box)
    return _least_parts([used_ends(row) for row in system.rows if bars_box(row, box)])


def _least_parts(lots):
    """The lot of those lots of which no other one is a part."""
    found = []
    for lot in sorted(set(lots)):
        parts = [other for other in lots if other != lot and all([end in lot for end in other])]
        if not parts:
            found.append(lot)
    return tuple(found)


def is_forced(system, box, ends, end, value):
    """Whether the ends of a box that are in a lot force another end with a value."""
    check_box(system, box)
    return _free_point(system, only_ends(box, ends), end, value) is None


def all_forcing(system, box, end, value):
    """The lot of all least lots that force an end with a value."""
    check_box(system, box)
    return _least_without(box, lambda part: _free_point(system, part, end, value))


def _free_point(system, box, end, value):
    """Some solution in a box that is beyond an end with a value, None if there is none."""
    at, side = end
    sign = 1 if side == 0 else -1
    row = (unit(len(box), at, sign * value[1]), sign * value[0])
    return point_beyond(len(box), [*system.rows, *end_rows(box)], row)


def row_forcing(system, box, end, value):
    """The least ones of the lots of ends with which an end itself or a single row forces it."""
    check_box(system, box)
    at, side = end
    lots = [(end,)] if is_sharp(box[at][side], value, side) else []
    loose = with_range(box, at, (None, None))
    for row in system.rows:
        if is_sharp(told_by(row, loose, at)[side], value, side):
            lots.append(tuple([other for other in used_ends(row) if other[0] != at]))
        if bars_box(row, box):
            lots.append(used_ends(row))
    return _least_parts(lots)
