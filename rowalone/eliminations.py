"""Rows that result from two rows without an unknown."""

from rowalone.errors import Refused
from rowalone.systems import least_form

MOST_TRIPLES = 3000


def unlike(one, other):
    """The lot of the unknowns at which two rows have unlike signs."""
    signs = [number * wanted for number, wanted in zip(one[0], other[0])]
    return tuple([at for at, sign in enumerate(signs) if sign < 0])


def joined_rows(one, other, at):
    """The sum of two rows, each times the size of the coefficient of the other one, as it is."""
    if at not in unlike(one, other):
        raise Refused("signs")
    factor = abs(other[0][at])
    further = abs(one[0][at])
    numbers = tuple([factor * number + further * wanted for number, wanted in zip(one[0], other[0])])
    return (numbers, factor * one[1] + further * other[1])


def eliminated(one, other, at):
    """The row that results from two rows without an unknown, None if it has no coefficients."""
    coefficients, bound = joined_rows(one, other, at)
    return least_form(coefficients, bound)


def clash(one, other):
    """Whether no point keeps both of two rows."""
    for at in unlike(one, other):
        coefficients, bound = joined_rows(one, other, at)
        if bound > 0 and not any(coefficients):
            return True
    return False


def eliminations(system):
    """The lot of all triples of two rows and an unknown that can be eliminated from them."""
    triples = all_triples(system)
    if len(triples) > MOST_TRIPLES:
        raise Refused("wide")
    return triples


def all_triples(system):
    """The same, however many there are."""
    triples = []
    for one, (coefficients, _) in enumerate(system.rows):
        for other, (others, _) in enumerate(system.rows):
            for at, number in enumerate(coefficients):
                if number > 0 and others[at] < 0:
                    triples.append((one, other, at))
    return tuple(triples)
