"""Rows of told signs: the outer ones of those that hold for a system."""

from rowalone.cones import cone_of, halved, levelled
from rowalone.equations import echelon
from rowalone.errors import Refused
from rowalone.kinds import is_whole
from rowalone.papers import check_solution
from rowalone.systems import least_form, unit


def outer_rows(system, signs):
    """The lot of the outer rows for some signs."""
    size = len(system.names)
    if not _are_signs(signs, size):
        raise Refused("signs")
    check_solution(system)
    # A row that holds is a sum of rows of the system and of 0 >= -1, each a vector with the
    # bound, times -1, as its last number.
    vectors = [(*coefficients, -bound) for coefficients, bound in system.rows]
    vectors.append(unit(size + 1, size, 1))
    _, solutions = cone_of(size + 1, vectors)
    cone = _sums_of(vectors, [bits for _, bits in solutions])
    for at, sign in enumerate(signs):
        place = len(solutions) + at
        if sign == 0:
            cone = levelled(cone, unit(size + 1, at, 1), place)
        else:
            cone = halved(cone, unit(size + 1, at, sign), place)
    rows = [least_form(vector[:-1], -vector[-1]) for vector, _ in cone[1]]
    return tuple(sorted([row for row in rows if row is not None]))


def _are_signs(value, size):
    """Whether any value is a tuple with 1, -1 or 0 for each of so many names."""
    if not isinstance(value, tuple) or len(value) != size:
        return False
    return all([is_whole(sign) and -1 <= sign <= 1 for sign in value])


def _sums_of(vectors, solutions):
    """The cone of the sums of vectors, with a bit for each ray of the cone of which they are the normals.

    `solutions` has for each of these rays the bits of the vectors with which its product is 0.
    """
    whole = (1 << len(solutions)) - 1
    level = []
    others = {}
    for place, vector in enumerate(vectors):
        bits = sum([1 << number for number, tight in enumerate(solutions) if tight >> place & 1])
        if bits == whole:
            level.append(vector)
        else:
            others[bits] = vector
    rays = []
    for bits, vector in others.items():
        # What has more products 0 lies further out; only the outermost vectors are needed.
        if not [more for more in others if bits & ~more == 0 and more != bits]:
            rays.append((vector, bits))
    lines = [tuple(numbers) for numbers in echelon(level, tuple(range(len(vectors[0]))))]
    return (lines, rays)
