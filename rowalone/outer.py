"""Single rows of the least single system, found and judged without all the others."""

from rowalone.cones import levelled
from rowalone.equations import opposite
from rowalone.fractions import less, minus, times, weighed
from rowalone.programs import least_over, point_beyond, point_or_shares
from rowalone.systems import is_row, row_of, unit, whole_sums


def is_outer_row(system, row):
    """Whether any value is a row of the least single system; without a solution there is none.

    It is so if it holds and its tight solutions differ, in its unknowns, in all directions
    but the one that would change its sum.
    """
    size = len(system.names)
    if not is_row(row, size):
        return False
    word, point, _ = least_over(size, system.rows, row[0])
    if word != "least" or weighed(row[0], point) != (row[1], 1):
        return False
    tight = [*system.rows, opposite(row)]
    directions = [unit(size, at, 1) for at, number in enumerate(row[0]) if number != 0]
    left = _across(directions, row[0])
    while left:
        further = _differing(size, tight, left[0], point)
        if further is None:
            return False
        steps, _ = whole_sums([minus(value, other) for value, other in zip(further, point)], (0, 1))
        left = _across(left, steps)
    return True


def _across(directions, vector):
    """Directions that make all sums of some directions whose product with a vector is 0."""
    return levelled((directions, []), vector, 0)[0]


def _differing(size, rows, direction, point):
    """Some point that keeps all rows and differs from another one in a direction, None if there is none."""
    top, bottom = weighed(direction, point)
    for sign in (1, -1):
        numbers = tuple([sign * bottom * number for number in direction])
        further = point_beyond(size, rows, (numbers, sign * top))
        if further is not None:
            return further
    return None


def outer_row_beyond(system, box, ends):
    """Some row of the least single system that bars a box, if some ends of it are a least lot to blame.

    Of all rows that hold and use just these ends, with coefficients whose sizes sum to 1, one
    is sought that lacks most. Each row tried is the outermost one for some points and ways of
    the system; if it does not hold, there is a point or a way more that it has to keep.
    """
    size = len(box)
    signs = [1 if side == 1 else -1 for _, side in ends]
    many = len(ends)
    rows = [(unit(many + 1, place, 1), 0) for place in range(many)]
    rows.extend([((*(1,) * many, 0), 1), ((*(-1,) * many, 0), -1)])
    corner = _asked(ends, signs, [box[at][side] for at, side in ends], (-1, 1))
    rows.append((_asked(ends, signs, _values(point_or_shares(size, system.rows)[1], ends), (-1, 1)), 0))
    while True:
        found = least_over(many + 1, rows, corner)[1]
        row = _row_at(size, ends, signs, found)
        further = _unkept(system, row)
        if further is None:
            return row
        point, last = further
        rows.append((_asked(ends, signs, _values(point, ends), last), 0))


def _values(point, ends):
    """The fractions of a point at the unknowns of some ends."""
    return [point[at] for at, _ in ends]


def _asked(ends, signs, values, last):
    """What values ask of sizes of coefficients and of a bound, as integers."""
    numbers = [times((sign, 1), value) for sign, value in zip(signs, values)]
    return whole_sums([*numbers, last], (0, 1))[0]


def _row_at(size, ends, signs, found):
    """The row with found sizes of coefficients at some ends, and a found bound."""
    numbers = [(0, 1)] * size
    for (at, _), sign, value in zip(ends, signs, found):
        numbers[at] = times((sign, 1), value)
    return row_of(tuple(numbers), found[-1])


def _unkept(system, row):
    """None if a row holds; otherwise a solution that does not keep it, and -1, or a way, and 0, on
    which its sum falls from any solution."""
    size = len(system.names)
    word, point, _ = least_over(size, system.rows, row[0])
    if word == "least":
        return (point, (-1, 1)) if less(weighed(row[0], point), (row[1], 1)) else None
    level = [(coefficients, 0) for coefficients, _ in system.rows]
    falling = (tuple([-number for number in row[0]]), 1)
    return (point_or_shares(size, [*level, falling])[1], (0, 1))
