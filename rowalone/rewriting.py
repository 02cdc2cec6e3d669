"""Combinations rewritten as plain ones of a single system, and questions that show a gap."""

from rowalone.bars import bars_box, crossing, told
from rowalone.boxes import placed
from rowalone.eliminations import eliminations, joined_rows
from rowalone.fractions import least_of, minus, plus, ratio, simplest, times
from rowalone.papers import check_paper, used_rows
from rowalone.systems import common_divisor


def rewritten(system, single, numbers):
    """Some plain combination with the coefficients of a combination and a bound at least as great."""
    sums = {triple: part for triple, part in zip(eliminations(system), single.sums)}
    found = numbers
    for at in range(len(system.names)):
        triple = _unlike_pair(system, found, at)
        while triple is not None:
            # No row of the sum has the unknown, so each time fewer used rows have it.
            found = _exchanged(system, found, triple, sums[triple])
            triple = _unlike_pair(system, found, at)
    return found


def _unlike_pair(system, numbers, at):
    """The triple of the first used rows with unlike signs at an unknown, None if there are none."""
    used = used_rows(numbers)
    positive = [number for number in used if system.rows[number][0][at] > 0]
    others = [number for number in used if system.rows[number][0][at] < 0]
    return (positive[0], others[0], at) if positive and others else None


def _exchanged(system, numbers, triple, part):
    """A combination with the sum of an elimination for as much of its two rows as lets one be unused."""
    one, other, at = triple
    factor = (abs(system.rows[other][0][at]), 1)
    further = (abs(system.rows[one][0][at]), 1)
    many = least_of((ratio(numbers[one], factor), ratio(numbers[other], further)))
    coefficients, bound = joined_rows(system.rows[one], system.rows[other], at)
    # The sum is one of the eliminated row in least form.
    divisor = (common_divisor((*coefficients, bound)), 1)
    found = [plus(number, times(times(many, divisor), share)) for number, share in zip(numbers, part)]
    found[one] = minus(found[one], times(many, factor))
    found[other] = minus(found[other], times(many, further))
    return tuple(found)


def barring_row(system, single, box, paper):
    """The number of some row that bars a box alone, by a paper for it."""
    check_paper(system, box, paper)
    for number in used_rows(rewritten(system, single, paper)):
        if bars_box(system.rows[number], box):
            return number
    return None


def crossed_box(system, gap):
    """Some box within that of a right Gap that no row bars and whose halves single rows bar."""
    box = gap.box
    for at in range(len(system.names)):
        if crossing(system, box) is not None:
            break
        # No row bars the box with a told value, and with all values told it would be a solution.
        low, high = told(system, box)[at]
        box = placed(box, at, simplest(low, high))
    return box
