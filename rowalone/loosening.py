"""The cheapest ways to loosen the ends of a box until it has a solution, or until no row bars it."""

from rowalone.bars import bars_box, top, used_ends
from rowalone.blame import all_blames, is_to_blame, least_hits
from rowalone.boxes import box_ends, check_box
from rowalone.errors import Refused
from rowalone.fractions import less, minus, plus, ratio, times, weighed
from rowalone.papers import check_solution, end_rows
from rowalone.programs import least_over
from rowalone.systems import unit


def _loose_ends(box, costs):
    """The lot of the ends of a box that are not fixed."""
    return tuple([end for end in box_ends(box) if end in costs])


def _check_loose(system, box, loose):
    """Raise an error unless a box has a solution without its ends that are not fixed."""
    check_solution(system)
    if is_to_blame(system, box, tuple([end for end in box_ends(box) if end not in loose])):
        raise Refused("fixed")


def cheapest_loosening(system, box, costs):
    """The least cost of a loosening without fixed ends, and some such loosening."""
    check_box(system, box)
    loose = _loose_ends(box, costs)
    _check_loose(system, box, loose)
    best = None
    for lot in least_hits(all_blames(system, box)):
        if all([end in loose for end in lot]):
            cost = sum([costs[end] for end in lot])
            if best is None or cost < best[0]:
                best = (cost, lot)
    return best


def shared_costs(system, box, costs):
    """The greatest total of shares of lots to blame that the costs of ends allow, and the parts that show it."""
    check_box(system, box)
    loose = _loose_ends(box, costs)
    _check_loose(system, box, loose)
    lots = all_blames(system, box)
    rows = [(tuple([int(end in lot) for end in loose]), 1) for lot in lots]
    goal = [costs[end] for end in loose]
    _, point, found = least_over(len(loose), rows + _from_zero(0, len(loose)), goal)
    shares = {lot: share for lot, share in zip(lots, found) if share[0] > 0}
    return (weighed(goal, point), shares, _by_end(loose, point))


def _from_zero(before, many):
    """The rows that make so many unknowns, after some others, not be below 0."""
    return [(unit(before + many, before + at, 1), 0) for at in range(many)]


def _by_end(loose, point):
    """A dict with a fraction for each end."""
    return {end: value for end, value in zip(loose, point)}


def moved_box(box, moves):
    """The box with its lows lowered and its highs raised by what some ends have in a dict."""
    moved = []
    for at, (low, high) in enumerate(box):
        if low is not None and (at, 0) in moves:
            low = minus(low, moves[(at, 0)])
        if high is not None and (at, 1) in moves:
            high = plus(high, moves[(at, 1)])
        moved.append((low, high))
    return tuple(moved)


def _moved_rows(system, box, factors, many):
    """The rows of a system and of a box whose ends are moved by so many further unknowns.

    `factors` has for some ends what they are moved by: a number for each further unknown.
    """
    rows = [((*coefficients, *[0] * many), bound) for coefficients, bound in system.rows]
    for end, (coefficients, bound) in zip(box_ends(box), end_rows(box)):
        size = abs(coefficients[end[0]])
        numbers = factors.get(end, (0,) * many)
        rows.append(((*coefficients, *[size * number for number in numbers]), bound))
    return rows + _from_zero(len(box), many)


def how_far(system, box, costs):
    """The least cost of moves after which a box has a solution, with moves, a solution and a combination."""
    check_box(system, box)
    loose = _loose_ends(box, costs)
    _check_loose(system, box, loose)
    size = len(box)
    many = len(loose)
    factors = {end: unit(many, place, 1) for place, end in enumerate(loose)}
    goal = [0] * size + [costs[end] for end in loose]
    _, point, shares = least_over(size + many, _moved_rows(system, box, factors, many), goal)
    return (weighed(goal, point), _by_end(loose, point[size:]), point[:size], shares[:len(system.rows)])


def _lacks(system, box, loose):
    """For each row that bars a box its number, what its top lacks, and the loose ends that it uses."""
    found = []
    for number, row in enumerate(system.rows):
        if bars_box(row, box):
            used = [end for end in used_ends(row) if end in loose]
            if not used:
                raise Refused("fixed")
            found.append((number, minus((row[1], 1), top(row, box)), used))
    return found


def how_far_by_rows(system, box, costs):
    """The least cost of moves after which no row bars a box, with moves and a combination of such rows."""
    check_box(system, box)
    loose = _loose_ends(box, costs)
    lacks = _lacks(system, box, loose)
    rows = []
    for number, (wanted, bottom), used in lacks:
        numbers = system.rows[number][0]
        rows.append((tuple([bottom * abs(numbers[end[0]]) if end in used else 0 for end in loose]), wanted))
    goal = [costs[end] for end in loose]
    _, point, shares = least_over(len(loose), rows + _from_zero(0, len(loose)), goal)
    numbers = [(0, 1)] * len(system.rows)
    for (number, lack, _), share in zip(lacks, shares):
        numbers[number] = times(share, (lack[1], 1))
    return (weighed(goal, point), _by_end(loose, point), tuple(numbers))


def _weighed_ends(box, weights):
    """The lot of the ends of a box that a step moves."""
    return tuple([end for end in _loose_ends(box, weights) if weights[end] > 0])


def even_move(system, box, weights):
    """The least step after which a box has a solution, with a solution and a combination."""
    check_box(system, box)
    loose = _weighed_ends(box, weights)
    _check_loose(system, box, loose)
    size = len(box)
    rows = _moved_rows(system, box, {end: (weights[end],) for end in loose}, 1)
    _, point, shares = least_over(size + 1, rows, unit(size + 1, size, 1))
    return (point[size], point[:size], shares[:len(system.rows)])


def even_move_by_rows(system, box, weights):
    """The least step after which no row bars a box, and the first row that bars it until then."""
    check_box(system, box)
    step = (0, 1)
    first = None
    for number, lack, used in _lacks(system, box, _weighed_ends(box, weights)):
        taken = sum([weights[end] * abs(system.rows[number][0][end[0]]) for end in used])
        needed = ratio(lack, (taken, 1))
        if less(step, needed):
            step = needed
            first = number
    return (step, first)
