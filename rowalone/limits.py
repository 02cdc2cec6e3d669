"""Limits: the boxes within a box that contain all resting boxes, what shows them, and when passes end.

Ends are told as numbers that grow as a box shrinks: a low as it is, a high times -1. A telling
is a tuple `(number, at, side)`: the number of a row, and an end that the row tells from the
bounded ends that it uses for its other unknowns.
"""

from rowalone.bars import used_ends
from rowalone.boxes import check_box, within
from rowalone.errors import InvalidBox
from rowalone.fractions import fraction_of, is_fraction, less, negative, plus, times, weighed
from rowalone.kinds import is_number
from rowalone.passes import bounded_ends, passes, rests, turned_top
from rowalone.programs import least_over, point_or_shares
from rowalone.systems import unit, whole_sums


class Rest:
    """The limit of a box, and for each end that is not that of the box a row that tells it, and a weight."""

    def __init__(self, box, rows, weights):
        self.box = box
        self.rows = rows
        self.weights = weights


class NoRest:
    """What shows that no box within a box rests: for each row a fraction for each name."""

    def __init__(self, numbers):
        self.numbers = numbers


def _tellings(system, ends):
    """All tellings of a system, if just the ends in a lot are bounded."""
    found = []
    for number, row in enumerate(system.rows):
        used = used_ends(row)
        for at, side in used:
            if all([end in ends for end in used if end[0] != at]):
                found.append((number, at, 1 - side))
    return found


def _telling_row(system, ends, telling):
    """What a telling asks of the ends in a lot: that the turned top is at least the bound."""
    number, at, side = telling
    coefficients, bound = system.rows[number]
    numbers = [0] * len(ends)
    numbers[ends.index((at, side))] = abs(coefficients[at])
    for place, other in used_ends(system.rows[number]):
        if place != at:
            numbers[ends.index((place, other))] = -abs(coefficients[place])
    return (tuple(numbers), bound)


def _given_rows(box, ends):
    """What the ends of a box ask of the ends in a lot."""
    rows = []
    for place, (at, side) in enumerate(ends):
        if box[at][side] is not None:
            top, bottom = box[at][side]
            rows.append((unit(len(ends), place, bottom), top if side == 0 else -top))
    return rows


def _order_row(ends, at):
    """That the low of an unknown is at most its high, both in a lot of ends."""
    numbers = [0] * len(ends)
    numbers[ends.index((at, 0))] = -1
    numbers[ends.index((at, 1))] = -1
    return (tuple(numbers), 0)


def _both_bounded(ends):
    """The unknowns both of whose ends are in a lot."""
    return [at for at, side in ends if side == 0 and (at, 1) in ends]


def limit(system, box):
    """Some Rest with the limit of a box, or some NoRest."""
    ends = bounded_ends(system, box)
    tellings = _tellings(system, ends)
    rows = [_telling_row(system, ends, telling) for telling in tellings]
    given = _given_rows(box, ends)
    orders = [_order_row(ends, at) for at in _both_bounded(ends)]
    word, found = point_or_shares(len(ends), [*rows, *given, *orders])
    if word == "shares":
        return _no_rest(system, tellings, found)
    # The least sum is that of the least ends, and each end has just one share, of what holds it.
    _, point, shares = least_over(len(ends), [*rows, *given], [1] * len(ends))
    return _rest(system, box, _box_of(len(box), ends, point), tellings, shares)


def _no_rest(system, tellings, shares):
    """The NoRest with the shares of tellings."""
    numbers = [[(0, 1)] * len(system.names) for _ in system.rows]
    for (number, at, _), share in zip(tellings, shares):
        numbers[number][at] = share
    return NoRest(tuple([tuple(some) for some in numbers]))


def _box_of(size, ends, point):
    """The box with the ends in a lot, and no others."""
    values = {end: value for end, value in zip(ends, point)}
    return tuple([(values.get((at, 0)), negative(values.get((at, 1)))) for at in range(size)])


def _rest(system, box, found, tellings, shares):
    """The Rest with a limit of a box and the shares of tellings."""
    rows = [[None, None] for _ in box]
    weights = [[None, None] for _ in box]
    for (number, at, side), share in zip(tellings, shares):
        if share[0] > 0 and found[at][side] != box[at][side]:
            rows[at][side] = number
            weights[at][side] = times(share, (abs(system.rows[number][0][at]), 1))
    return Rest(found, tuple([tuple(some) for some in rows]), tuple([tuple(some) for some in weights]))


def is_limit(system, box, value):
    """Whether any value is a Rest or a NoRest that is right for a box."""
    check_box(system, box)
    if isinstance(value, Rest):
        return _is_right_rest(system, box, value)
    return isinstance(value, NoRest) and _is_right_no_rest(system, box, value.numbers)


def _is_right_rest(system, box, value):
    """Whether the attributes of a Rest, any values, are right."""
    try:
        check_box(system, value.box)
    except InvalidBox:
        return False
    if not within(value.box, box) or not rests(system, value.box):
        return False
    if not _are_pairs(value.rows, len(box)) or not _are_pairs(value.weights, len(box)):
        return False
    told = {}
    for at in range(len(box)):
        for side in (0, 1):
            number = value.rows[at][side]
            weight = value.weights[at][side]
            if value.box[at][side] != box[at][side]:
                told[(at, side)] = (number, weight)
            elif number is not None or weight is not None:
                return False
    ends = bounded_ends(system, box)
    if not all([end in ends and _is_tight(system, value.box, end, told[end]) for end in told]):
        return False
    return all([_is_heavy(system, told, end) for end in told])


def _are_pairs(value, size):
    """Whether any value is a tuple with a tuple of two items for each unknown."""
    if not isinstance(value, tuple) or len(value) != size:
        return False
    return all([isinstance(some, tuple) and len(some) == 2 for some in value])


def _is_tight(system, box, end, reason):
    """Whether any two values are a row that tells an end of a box just as it is, and a weight."""
    at, side = end
    number, weight = reason
    if not is_number(number) or number >= len(system.rows) or not is_fraction(weight) or weight[0] <= 0:
        return False
    row = system.rows[number]
    if row[0][at] == 0 or (row[0][at] > 0) != (side == 0):
        return False
    return turned_top(row, box, at) == (row[1], 1)


def _is_heavy(system, told, end):
    """Whether the weight of a told end is above what the ends that are told from it take of theirs."""
    total = (0, 1)
    for (at, _), (number, weight) in told.items():
        row = system.rows[number]
        if at != end[0] and end in used_ends(row):
            total = plus(total, times(weight, fraction_of(abs(row[0][end[0]]), abs(row[0][at]))))
    return less(total, told[end][1])


def _is_right_no_rest(system, box, numbers):
    """Whether any value has the right fractions, for each row one for each name."""
    ends = bounded_ends(system, box)
    if not isinstance(numbers, tuple) or len(numbers) != len(system.rows):
        return False
    if not all([_are_shares(some, len(box)) for some in numbers]):
        return False
    tellings = _tellings(system, ends)
    places = [(number, at) for number, at, _ in tellings]
    for number, some in enumerate(numbers):
        if not all([share[0] == 0 or (number, at) in places for at, share in enumerate(some)]):
            return False
    # The ends of boxes within the box never reach what the tellings together ask for.
    shares = [numbers[number][at] for number, at in places]
    rows = [_telling_row(system, ends, telling) for telling in tellings]
    sums = [weighed([row[0][place] for row in rows], shares) for place in range(len(ends))]
    wanted = whole_sums(sums, weighed([row[1] for row in rows], shares))
    orders = [_order_row(ends, at) for at in _both_bounded(ends)]
    return point_or_shares(len(ends), [*_given_rows(box, ends), *orders, wanted])[0] == "shares"


def _are_shares(value, size):
    """Whether any value is a tuple with a fraction from 0 on for each name."""
    if not isinstance(value, tuple) or len(value) != size:
        return False
    return all([is_fraction(share) and share[0] >= 0 for share in value])


def ending(system, box):
    """Whether passes lead to a resting box ("rest"), to None ("none"), or never end ("never")."""
    found = limit(system, box)
    if isinstance(found, NoRest):
        return "none" if _is_crossed(system, box) else "never"
    many = sum([int(ends[side] != others[side]) for ends, others in zip(found.box, box) for side in (0, 1)])
    return "rest" if passes(system, box, many)[-1] == found.box else "never"


def _is_crossed(system, box):
    """Whether the ends of an unknown cross, alone with all ends that tell them.

    Otherwise each end stays below some that do not cross, or grows without end where nothing meets it.
    """
    ends = bounded_ends(system, box)
    for at in _both_bounded(ends):
        tellings = _tellings_behind(system, _tellings(system, ends), ((at, 0), (at, 1)))
        rows = [_telling_row(system, ends, telling) for telling in tellings]
        if point_or_shares(len(ends), [*rows, *_given_rows(box, ends), _order_row(ends, at)])[0] == "shares":
            return True
    return False


def _tellings_behind(system, tellings, ends):
    """Those tellings that tell some ends, or ends from which such ones tell, and so on."""
    known = {end: True for end in ends}
    queue = list(ends)
    found = []
    while queue:
        end = queue.pop()
        for number, at, side in tellings:
            if (at, side) == end:
                found.append((number, at, side))
                for other in used_ends(system.rows[number]):
                    if other[0] != at and other not in known:
                        known[other] = True
                        queue.append(other)
    return found
