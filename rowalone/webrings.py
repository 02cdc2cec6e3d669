"""What rings of a web allow: boxes of which passes of single rows tell too little, or never end.

In all examples the rows of one ring tell too little together. The unknowns that are not in
the ring are 0 in the box, and the other rows have bounds so low that they tell nothing.
"""

from rowalone.errors import Refused
from rowalone.systems import System
from rowalone.webs import web, web_ring

FAR = 10


def _short_ring(system):
    """Some ring each of whose rows has only two unknowns of the ring."""
    ring = web_ring(system)
    if ring is None:
        raise Refused("none")
    lots = web(system)
    while True:
        shorter = _shortened(lots, ring)
        if shorter is None:
            return ring
        ring = shorter


def _shortened(lots, ring):
    """A shorter ring, by a row that has a further unknown of the ring, None if no row has one."""
    for place, (_, row) in enumerate(ring):
        # From the next unknown on, back to the one of this row.
        following = (*ring[place + 1:], *ring[:place + 1])
        for many in range(1, len(ring) - 1):
            if following[many][0] in lots[row]:
                return (*following[:many], (following[many][0], row))
    return None


def _example(system, ring, factors, bounds):
    """A system with the same web, and the combination of its rows that uses those of a ring alone.

    Each row of the ring is its own unknown plus the next one times a factor, at least a bound.
    """
    places = {row: place for place, (_, row) in enumerate(ring)}
    marked = []
    for number, lot in enumerate(web(system)):
        numbers = [int(at in lot) for at in range(len(system.names))]
        if number in places:
            place = places[number]
            following = ring[(place + 1) % len(ring)][0]
            numbers[following] = factors[place]
            marked.append(((tuple(numbers), bounds[place]), (1, 1)))
        else:
            # Bounds that differ keep rows with the same lot apart.
            marked.append(((tuple(numbers), -FAR - number), (0, 1)))
    marked = sorted(marked)
    return (System(system.names, tuple([row for row, _ in marked])), tuple([part for _, part in marked]))


def _box(system, ring, low, high):
    """The box with two ends for the unknowns of a ring, and 0 for the others."""
    box = [((0, 1), (0, 1))] * len(system.names)
    for at, _ in ring:
        box[at] = (low, high)
    return tuple(box)


def inexact_example(system):
    """A system with the same web, a resting box, an end of it, and a paper for the box at this end."""
    ring = _short_ring(system)
    # Each unknown is at least the next one, and the last and the first one are not both below 0:
    # so the first one is not below 0.
    factors = [-1] * (len(ring) - 1) + [1]
    other, paper = _example(system, ring, factors, [0] * len(ring))
    return (other, _box(system, ring, (-1, 1), (1, 1)), (ring[0][0], 0), paper)


def unfound_example(system):
    """A system with the same web, a box without a solution that no pass finds, and a paper for it."""
    ring = _short_ring(system)
    # Each unknown is at least the next one, and the first one is above the second one; without
    # highs in the ring no row tells a high.
    other, paper = _example(system, ring, [-1] * len(ring), [1] + [0] * (len(ring) - 1))
    return (other, _box(system, ring, None, None), paper)


def endless_example(system):
    """A system with the same web, and a box on which passes never end although it has a limit."""
    ring = _short_ring(system)
    # Each unknown is at least the next one, and the first one at least twice the second one: all
    # are 0, but each time around the ring only halves their highs.
    other, _ = _example(system, ring, [-2] + [-1] * (len(ring) - 1), [0] * len(ring))
    return (other, _box(system, ring, (0, 1), (1, 1)))
