"""The court: whether one row alone bars each empty box, and what shows it."""

from rowalone.bars import barring
from rowalone.boxes import check_box, free_box
from rowalone.eliminations import all_triples, eliminated, eliminations, joined_rows
from rowalone.errors import InvalidBox, InvalidPaper, Refused
from rowalone.kinds import is_number
from rowalone.papers import (check_plain, combined, elimination_sum, ends_without, is_combination, is_paper,
                             used_rows)


class Single:
    """What shows that a system is single: a plain combination for each elimination."""

    def __init__(self, sums):
        self.sums = sums


class Gap:
    """What shows that a system is not single: two rows, an unknown, and an empty box that no row bars."""

    def __init__(self, one, other, at, box, paper):
        self.one = one
        self.other = other
        self.at = at
        self.box = box
        self.paper = paper


def court(system):
    """Some Single or some Gap that is right for a system."""
    sums = []
    for triple in eliminations(system):
        numbers = elimination_sum(system, triple)
        if numbers is None:
            return _gap(system, triple)
        sums.append(numbers)
    return Single(tuple(sums))


def _gap(system, triple):
    """The Gap for a triple whose eliminated row is no plain sum."""
    one, other, at = triple
    row = eliminated(system.rows[one], system.rows[other], at)
    # Two rows that leave no coefficients contradict each other in each box.
    box = free_box(system) if row is None else ends_without(system, row)
    paper = [(0, 1)] * len(system.rows)
    paper[one] = (abs(system.rows[other][0][at]), 1)
    paper[other] = (abs(system.rows[one][0][at]), 1)
    return Gap(one, other, at, box, tuple(paper))


def is_single(system):
    """Whether each empty box is barred by one of the rows."""
    return isinstance(court(system), Single)


def is_verdict(system, value):
    """Whether any value is a Single or a Gap that is right for a system."""
    if isinstance(value, Single):
        return _is_right_single(system, value.sums)
    return isinstance(value, Gap) and _is_right_gap(system, value)


def _is_right_single(system, sums):
    """Whether any value has the right combination for each elimination."""
    try:
        triples = eliminations(system)
    except Refused:
        return False
    if not isinstance(sums, tuple) or len(sums) != len(triples):
        return False
    return all([_is_right_sum(system, triple, numbers) for triple, numbers in zip(triples, sums)])


def _is_right_sum(system, triple, numbers):
    """Whether any value is the right combination for the elimination of a triple."""
    one, other, at = triple
    row = eliminated(system.rows[one], system.rows[other], at)
    if row is None:
        bound = joined_rows(system.rows[one], system.rows[other], at)[1]
        return bound <= 0 and is_combination(system, numbers) and not used_rows(numbers)
    try:
        check_plain(system, row, numbers)
    except InvalidPaper:
        return False
    return True


def _is_right_gap(system, gap):
    """Whether the attributes of a Gap, any values, are right."""
    if not all([is_number(number) for number in (gap.one, gap.other, gap.at)]):
        return False
    if (gap.one, gap.other, gap.at) not in all_triples(system) or not is_combination(system, gap.paper):
        return False
    if used_rows(gap.paper) != sorted([gap.one, gap.other]):
        return False
    if combined(system, gap.paper)[0][gap.at] != (0, 1):
        return False
    try:
        check_box(system, gap.box)
    except InvalidBox:
        return False
    return not barring(system, gap.box) and is_paper(system, gap.box, gap.paper)
