"""Cones: the vectors whose products with some normals are all from 0 on.

A cone is a tuple `(lines, rays)`. All its vectors are sums of its lines, times any fractions,
and of its rays, times fractions from 0 on; no line or ray can be left out. Lines are vectors of
integers, and rays pairs of such a vector and a number, in which the bit of a normal is set if
the product with it is 0. Products of lines with normals are always 0.
"""

from rowalone.systems import common_divisor, unit


def product_of(one, other):
    """The sum of the products at equal places."""
    return sum([number * further for number, further in zip(one, other)])


def _mixed(one, number, other, further):
    """The sum of two vectors, each times a number, without a common divisor."""
    vector = [number * value + further * worth for value, worth in zip(one, other)]
    divisor = common_divisor(vector)
    return tuple([value // divisor for value in vector]) if divisor > 1 else tuple(vector)


def cone_of(size, normals):
    """The cone of all vectors of a size whose products with some normals are from 0 on."""
    cone = ([unit(size, at, 1) for at in range(size)], [])
    for place, normal in enumerate(normals):
        cone = halved(cone, normal, place)
    return cone


def halved(cone, normal, place):
    """The part of a cone whose products with one normal more are from 0 on.

    Its bit has the place after those of all normals before.
    """
    lines, rays = cone
    for line in lines:
        if product_of(normal, line) != 0:
            return _with_line_halved(cone, line, normal, place)
    above = []
    below = []
    found = []
    for vector, bits in rays:
        value = product_of(normal, vector)
        if value < 0:
            below.append((vector, bits, value))
        elif value > 0:
            above.append((vector, bits, value))
            found.append((vector, bits))
        else:
            found.append((vector, bits | (1 << place)))
    for vector, bits, value in above:
        for other, others, further in below:
            if _are_neighbours(rays, bits & others):
                found.append((_mixed(vector, -further, other, value), (bits & others) | (1 << place)))
    return (lines, found)


def _are_neighbours(rays, common):
    """Whether only two rays have some bits in common: then their sums are an edge of the cone."""
    many = 0
    for _, bits in rays:
        if bits & common == common:
            many += 1
            if many > 2:
                return False
    return True


def _with_line_halved(cone, line, normal, place):
    """The same if a line has another product than 0: one half of it becomes a ray."""
    lines, rays = cone
    value = product_of(normal, line)
    sign = 1 if value > 0 else -1
    left = []
    for other in lines:
        if other != line:
            left.append(_mixed(other, value, line, -product_of(normal, other)))
    # A ray may be shifted along the line, which changes no product with earlier normals.
    found = [(tuple([sign * number for number in line]), (1 << place) - 1)]
    for vector, bits in rays:
        shifted = _mixed(vector, abs(value), line, -sign * product_of(normal, vector))
        found.append((shifted, bits | (1 << place)))
    return (left, found)


def levelled(cone, normal, place):
    """The part of a cone whose products with one normal more are 0."""
    lines, rays = halved(cone, normal, place)
    return (lines, [ray for ray in rays if ray[1] >> place & 1])
