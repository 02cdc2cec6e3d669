"""Mixtures and medians of solutions, which tell whether rows with few unknowns would have the same ones."""

from rowalone.bars import keeps, used_ends
from rowalone.boxes import only_ends
from rowalone.closing import least_single, parting_solution
from rowalone.differences import arc_row, closed_differences
from rowalone.fractions import greatest_of, least_of, less, minus, plus
from rowalone.papers import check_solution, ends_without, point_or_paper
from rowalone.programs import least_over, point_beyond
from rowalone.systems import System, system_of


def _difference(size, one, other):
    """The coefficients of a node less another one; the ground has none."""
    return tuple([int(at == one) - int(at == other) for at in range(size)])


def difference_hull(system):
    """The least single system of the difference rows that all solutions keep."""
    check_solution(system)
    size = len(system.names)
    rows = []
    for one in range(size + 1):
        for other in range(size + 1):
            if one != other:
                word, point, _ = least_over(size, system.rows, _difference(size, one, other))
                if word == "least":
                    length = minus(_height(point, one), _height(point, other))
                    rows.append(arc_row(size, (one, other, length)))
    return closed_differences(system_of(system.names, tuple(rows)))


def _height(point, node):
    """The value of a node at a point."""
    return (*point, (0, 1))[node]


def mixed(point, other, shift):
    """Two points: the greater ones of a point and another one less a shift, and the lesser ones the other way."""
    upper = [greatest_of((value, minus(worth, shift))) for value, worth in zip(point, other)]
    lower = [least_of((plus(value, shift), worth)) for value, worth in zip(point, other)]
    return (tuple(upper), tuple(lower))


def _is_solution(system, point):
    """Whether a point keeps all rows."""
    return all([keeps(row, point) for row in system.rows])


def mixing_failure(system):
    """Some two solutions and a shift whose mixed points are not both solutions, None if there are none."""
    check_solution(system)
    goal = parting_solution(difference_hull(system), system)
    if goal is None:
        return None
    # The goal would be the least of mixtures that are as low as it at one node and no lower at others.
    lowest = None
    for node in range(len(goal) + 1):
        highest = None
        for other in range(len(goal) + 1):
            if other != node:
                point = _low_point(system, goal, node, other)
                shift = minus(_height(goal, node), _height(point, node))
                highest, failure = _mixture(system, highest, (point, shift), 0)
                if failure is not None:
                    return failure
        lowest, failure = _mixture(system, lowest, highest, 1)
        if failure is not None:
            return failure
    return None


def _low_point(system, goal, node, other):
    """Some solution at which a node less another one is at most what it is at a point of the hull."""
    size = len(goal)
    numbers = _difference(size, node, other)
    word, point, _ = least_over(size, system.rows, numbers)
    if word == "least":
        return point
    top, bottom = minus(_height(goal, node), _height(goal, other))
    return point_beyond(size, system.rows, (tuple([bottom * number for number in numbers]), top))


def _mixture(system, one, other, side):
    """The greater (side 0) or lesser (1) ones of two shifted points, as a shifted point, and None; or None,
    and two solutions and a shift if it is no solution. Instead of `one` there may be None, nothing."""
    if one is None:
        return (other, None)
    high, low = one, other
    if less(high[1], low[1]):
        high, low = other, one
    found = (high[0], low[0], minus(high[1], low[1]))
    points = mixed(found[0], found[1], found[2])
    if not _is_solution(system, points[side]):
        return (None, found)
    return ((points[side], high[1] if side == 0 else low[1]), None)


def median(one, two, three):
    """The point with the middle one of three fractions at each place."""
    return tuple([_middle(first, second, third) for first, second, third in zip(one, two, three)])


def _middle(one, two, three):
    """The middle one of three fractions."""
    low = least_of((one, two))
    high = greatest_of((one, two))
    return greatest_of((low, least_of((high, three))))


def median_failure(system):
    """Some three solutions whose median is no solution, None if there are none."""
    least = least_single(system)
    for row in least.rows:
        if len(used_ends(row)) > 2:
            others = System(least.names, tuple([other for other in least.rows if other != row]))
            return _three_solutions(system, row, ends_without(others, row))
    return None


def _three_solutions(system, row, box):
    """Solutions that each lack one of three ends of a box, which only a row bars: their median lacks none."""
    used = used_ends(row)
    found = []
    for lacking in used[:3]:
        part = only_ends(box, tuple([end for end in used if end != lacking]))
        found.append(point_or_paper(system, part)[1])
    return tuple(found)
