"""Points [79] to [81]: limits, what shows them, and when passes end."""

import unittest
from fractions import Fraction

from rowalone.bars import used_ends
from rowalone.boxes import box_ends, free_box, with_range, within
from rowalone.limits import NoRest, Rest, ending, is_limit, limit
from rowalone.papers import point_or_paper
from rowalone.passes import bounded_ends, passed, passes, rests, run, turned_top
from rowalone.systems import System, system_of
from rowalone.texts import read_system
from rowalone.webrings import endless_example, unfound_example
from tests.helpers import (Anything, Dice, NAMES, any_box, any_fraction, any_system, changed, frac, is_in,
                           no_fractions, odd_values, pair, raised, wrong_boxes)

ZERO = (0, 1)
ONE = (1, 1)
HALVING = read_system("x - 2 y >= 0\ny - x >= 0")
UNIT = ((ZERO, ONE), (ZERO, ONE))
FREE = ((None, None), (None, None))
RISING = read_system("x - y >= 1\ny - x >= 0")


def tells(row, at, side):
    return row[0][at] != 0 and (row[0][at] > 0) == (side == 0)


def is_right_rest(system, box, value):
    """By the words, for a Rest with attributes of the right kinds."""
    size = len(box)
    if not within(value.box, box) or passed(system, value.box) != value.box:
        return False
    bounded, changed_ends = bounded_ends(system, box), []
    for at in range(size):
        for side in (0, 1):
            if value.box[at][side] == box[at][side]:
                if value.rows[at][side] is not None or value.weights[at][side] is not None:
                    return False
            else:
                changed_ends.append((at, side))
    for at, side in changed_ends:
        number = value.rows[at][side]
        if number is None or (at, side) not in bounded or not tells(system.rows[number], at, side):
            return False
        if frac(turned_top(system.rows[number], value.box, at)) != system.rows[number][1]:
            return False
    for end in changed_ends:
        total = Fraction(0)
        for at, side in changed_ends:
            numbers = system.rows[value.rows[at][side]][0]
            used = [one for one in used_ends(system.rows[value.rows[at][side]]) if one[0] != at]
            if end in used:
                total += frac(value.weights[at][side]) * abs(numbers[end[0]]) / abs(numbers[at])
        weight = frac(value.weights[end[0]][end[1]])
        if weight <= 0 or weight <= total:
            return False
    return True


def asked(system, box, numbers):
    """What a NoRest asks at a box: the sums of turned tops and of bounds."""
    tops, bounds = Fraction(0), Fraction(0)
    for row, some in zip(system.rows, numbers):
        for at, share in enumerate(some):
            if share[0] > 0:
                tops += frac(share) * frac(turned_top(row, box, at))
                bounds += frac(share) * row[1]
    return tops, bounds


def any_part(dice, box, ends):
    """Some box within a box that has some further ends."""
    found = []
    for at, (low, high) in enumerate(box):
        one, other = low, high
        if (at, 0) in ends and (low is None or dice.chance(1, 2)):
            one = pair((frac(low) if low else frac(high) - 40 if high else Fraction(-dice.below(50))) + dice.below(3))
        if one is not None and high is not None and frac(one) > frac(high):
            one = high
        if (at, 1) in ends and (high is None or dice.chance(1, 2)):
            other = pair((frac(high) if high else frac(one) + 40 if one else Fraction(dice.below(50))) - dice.below(3))
        if one is not None and other is not None and frac(one) > frac(other):
            other = one
        found.append((one, other))
    return tuple(found)


def any_case(dice):
    """A system and a box; often one unknown pushes another one, so that passes may never end."""
    size = dice.between(1, 4)
    system = any_system(dice, size, dice.between(0, 6), dice.pick((1, 2, 3)), 3)
    if dice.chance(1, 2) and size > 1:
        rows = []
        for _ in range(dice.between(2, 6)):
            one, other = dice.below(size), dice.below(size)
            if one != other:
                numbers = [0] * size
                numbers[one], numbers[other] = dice.between(1, 2), -dice.between(1, 2)
                rows.append((tuple(numbers), dice.pick((0, 0, 1))))
        system = system_of(NAMES[:size], tuple(rows))
        if dice.chance(1, 2):
            return system, tuple(dice.pick(((ZERO, (3, 1)), (ZERO, None), (None, ONE))) for _ in range(size))
    return system, any_box(dice, size, 5, dice.pick((2, 4, 6, 8, 10)))


class Limits(unittest.TestCase):

    def test_examples(self):
        self.assertEqual((passes(HALVING, UNIT, 2)[2], ending(HALVING, UNIT)), (((ZERO, (1, 2)), (ZERO, (1, 2))), "never"))
        self.assertEqual((limit(HALVING, UNIT).box, limit(HALVING, UNIT).rows),
                         (((ZERO, ZERO), (ZERO, ZERO)), ((None, 0), (None, 1))))

    def test_boxes_are_checked_first(self):
        for value, at in wrong_boxes(2):
            for call, more in ((limit, ()), (is_limit, (None,)), (ending, ())):
                self.assertEqual(raised(call, HALVING, value, *more), ("InvalidBox", at), value)

    def test_objects_of_any_values(self):
        thing = Anything()
        rest = Rest(box=thing, rows=None, weights=[1])
        self.assertEqual((rest.box, rest.rows, rest.weights), (thing, None, [1]))
        self.assertEqual(sorted(vars(Rest(1, 2, 3)).items()), [("box", 1), ("rows", 2), ("weights", 3)])
        self.assertEqual(vars(NoRest(numbers=thing)), {"numbers": thing})

    def test_boxes_that_rest(self):
        for system, box in ((HALVING, ((ZERO, ZERO), (ZERO, ZERO))), (System(("x",), ()), ((ZERO, ONE),)),
                            (System(NAMES, ()), free_box(System(NAMES, ()))), (HALVING, FREE)):
            found = limit(system, box)
            none = ((None, None),) * len(box)
            self.assertEqual((found.box, found.rows, found.weights), (box, none, none))
            self.assertEqual(ending(system, box), "rest")
            self.assertIs(is_limit(system=system, box=box, value=found), True)

    def test_boxes_without_a_limit(self):
        barred = ((None, ZERO), (ONE, None))
        for system, box, word in ((HALVING, barred, "none"), (RISING, UNIT, "none"),
                                  (read_system("x >= 1\nx <= 0"), ((None, None),), "none"),
                                  (RISING, ((ZERO, None), (ZERO, None)), "never"),
                                  (RISING, ((ZERO, None), (None, None)), "never"),
                                  (RISING, ((ZERO, (10 ** 9, 1)), (None, None)), "none"),
                                  (RISING, ((None, None), (None, ZERO)), "never")):
            found = limit(system, box)
            self.assertIsInstance(found, NoRest)
            self.assertIs(is_limit(system, box, found), True)
            self.assertEqual(ending(system=system, box=box), word)
        self.assertEqual(ending(RISING, FREE), "rest")

    def test_ends_that_grow_and_ends_that_cross(self):
        # x and y grow without end; z alone is crossed, or has not both ends.
        system = read_system("x - y >= 1\ny - x >= 0\nz - x >= 0")
        self.assertEqual(ending(system, ((ZERO, None), (None, None), (None, None))), "never")
        self.assertEqual(ending(system, ((ZERO, None), (None, None), (None, (5, 1)))), "none")
        system = read_system("x - y >= 1\ny - x >= 0\nz - t >= 1\nt - z >= 1")
        box = {"t": (ZERO, (1, 2)), "x": (ZERO, None), "y": (None, None), "z": (None, None)}
        self.assertEqual(ending(system, tuple(box[name] for name in system.names)), "none")
        box["t"] = (ZERO, None)
        self.assertEqual(ending(system, tuple(box[name] for name in system.names)), "never")
        # Ends that come nearer and nearer to ends that cross.
        system = read_system("2 x - y >= 1\n2 y - x >= 1\nx + y <= 1")
        self.assertEqual(ending(system, UNIT), "none")
        self.assertIsInstance(limit(system, UNIT), NoRest)

    def test_examples_of_web_rings(self):
        dice = Dice(521)
        checked = 0
        while checked < 20:
            system = any_system(dice, dice.between(2, 4), dice.between(2, 5), 2, 2)
            if raised(endless_example, system) is None:
                checked += 1
                other, box = endless_example(system)
                self.assertIsInstance(limit(other, box), Rest)
                self.assertEqual(ending(other, box), "never")
                other, box, _ = unfound_example(system)
                self.assertNotEqual(ending(other, box), "none")

    def test_by_the_words(self):
        dice = Dice(522)
        seen = {"rest": 0, "none": 0, "never": 0, "limit": 0}
        for _ in range(900):
            system, box = any_case(dice)
            found, word = limit(system, box), ending(system, box)
            seen[word] += 1
            self.assertIs(is_limit(system, box, found), True)
            items = passes(system, box, 40)
            if isinstance(found, Rest):
                seen["limit"] += word == "never"
                self.assertTrue(is_right_rest(system, box, found))
                for item in items:
                    self.assertTrue(within(found.box, item))
                many = sum(ends[side] != others[side] for ends, others in zip(box, found.box) for side in (0, 1))
                self.assertEqual(word, "rest" if passes(system, box, many)[-1] == found.box else "never")
                self.assertEqual(items[-1] == found.box, word == "rest")
                numbers = tuple(dice.below(len(system.rows)) for _ in range(6)) if system.rows else ()
                self.assertTrue(within(found.box, run(system, box, numbers)))
            else:
                self.assertEqual(point_or_paper(system, box)[0], "paper")
                self.assertNotEqual(word, "rest")
                if items[-1] is None:
                    self.assertEqual(word, "none")
                elif word == "none":
                    # Passes may need many steps.
                    self.assertIsNone(passes(system, items[-1], 100)[-1])
                both = all((at, side) in bounded_ends(system, box) for at in range(len(box)) for side in (0, 1))
                self.assertTrue(word == "none" or not both)
                for _ in range(5):
                    part = any_part(dice, box, bounded_ends(system, box))
                    if within(part, box) and set(bounded_ends(system, box)) <= set(box_ends(part)):
                        tops, bounds = asked(system, part, found.numbers)
                        self.assertLess(tops, bounds)
                        self.assertFalse(rests(system, part))
        self.assertGreater(min(seen.values()), 5, seen)

    def test_no_box_that_rests_is_outside(self):
        dice = Dice(523)
        checked = 0
        while checked < 150:
            system, box = any_case(dice)
            found = limit(system, box)
            part = passes(system, any_part(dice, box, tuple((at, side) for at in range(4) for side in (0, 1))), 9)[-1]
            if part is not None and rests(system, part) and within(part, box):
                checked += 1
                self.assertIsInstance(found, Rest)
                self.assertTrue(within(part, found.box))
            word, point = point_or_paper(system, box)
            if word == "point":
                self.assertTrue(is_in(point, found.box))

    def test_sequences_of_rows_end_alike(self):
        dice = Dice(524)
        for _ in range(100):
            system, box = any_case(dice)
            word, left = ending(system, box), box
            for _ in range(60):
                if left is not None:
                    order = list(range(len(system.rows)))
                    left = run(system, left, tuple(order.pop(dice.below(len(order))) for _ in order[:]))
            if word == "rest":
                self.assertEqual(left, limit(system, box).box)
            if word == "never":
                self.assertTrue(left is not None and not rests(system, left))
            if left is None:
                self.assertEqual(word, "none")

    def test_six_names(self):
        dice = Dice(525)
        for many, limits in ((12, 2), (60, 2), (60, 10 ** 3)):
            system = any_system(dice, 6, many, limits, -limits)
            box = any_box(dice, 6, 10 ** 4, 9)
            found = limit(system, box)
            self.assertIs(is_limit(system, box, found), True)
            self.assertEqual(ending(system, box) == "rest", isinstance(found, Rest) and passes(
                system, box, 12)[-1] == found.box)


class RightObjects(unittest.TestCase):

    def test_any_value(self):
        right = limit(HALVING, UNIT)
        for value in odd_values() + [(right.box, right.rows, right.weights), Rest, NoRest]:
            self.assertIs(is_limit(HALVING, UNIT, value), False)
            self.assertIs(is_limit(HALVING, UNIT, NoRest(value)), False)
            self.assertIs(is_limit(HALVING, UNIT, NoRest((value, value))), False)
            self.assertIs(is_limit(HALVING, UNIT, NoRest(((value, ZERO), (ZERO, value)))), False)
            self.assertIs(is_limit(HALVING, UNIT, Rest(value, right.rows, right.weights)), False)
            self.assertIs(is_limit(HALVING, UNIT, Rest(right.box, value, right.weights)), False)
            self.assertIs(is_limit(HALVING, UNIT, Rest(right.box, right.rows, value)), False)
            self.assertIs(is_limit(HALVING, UNIT, Rest(right.box, (value, (None, 1)), right.weights)), False)
            self.assertIs(is_limit(HALVING, UNIT, Rest(right.box, right.rows, (value, right.weights[1]))), False)
            self.assertIs(is_limit(HALVING, UNIT, Rest(right.box, right.rows, ((None, value), right.weights[1]))), False)
            if isinstance(value, bool) or value != 0:
                self.assertIs(is_limit(HALVING, UNIT, Rest(right.box, ((None, value), (None, 1)), right.weights)), False)
            if value is not None:
                self.assertIs(is_limit(HALVING, UNIT, Rest(right.box, ((value, 0), (None, 1)), right.weights)), False)
                weights = ((value, right.weights[0][1]), right.weights[1])
                self.assertIs(is_limit(HALVING, UNIT, Rest(right.box, right.rows, weights)), False)
            for other in (Rest(value, value, value), Rest(UNIT, value, value)):
                self.assertIs(is_limit(HALVING, UNIT, other), False)

    def test_weights(self):
        # x is told by the row with 2 y, y by the row with x: w(x) > w(y), w(y) > w(x) / 2 ... as the rows are.
        box, rows = limit(HALVING, UNIT).box, limit(HALVING, UNIT).rows
        self.assertEqual(HALVING.rows, (((-1, 1), 0), ((1, -2), 0)))
        # The high of x by row 0 from that of y; the high of y by row 1 from that of x, divided by 2.
        for one, other, right in (((3, 1), (4, 1), True), ((4, 1), (4, 1), False), ((1, 1), (4, 1), False),
                                  ((2, 1), (4, 1), False), ((5, 1), (4, 1), False), ((21, 10), (4, 1), True),
                                  ((399, 100), (4, 1), True), (ZERO, ZERO, False), ((-3, 1), (4, 1), False)):
            self.assertIs(is_limit(HALVING, UNIT, Rest(box, rows, ((None, one), (None, other)))), right)
        for value in no_fractions():
            self.assertIs(is_limit(HALVING, UNIT, Rest(box, rows, ((None, value), (None, (4, 1))))), False)
            self.assertIs(is_limit(HALVING, UNIT, Rest(box, rows, ((None, (3, 1)), (None, value)))), False)

    def test_boxes_that_are_no_limit(self):
        weights = ((None, (3, 1)), (None, (4, 1)))
        for box in (((ZERO, (1, 2)), (ZERO, (1, 2))), UNIT, FREE, ((ZERO, (2, 1)), (ZERO, ONE)),
                    ((ZERO, ZERO), (ZERO, ZERO), (ZERO, ZERO)), ((ZERO, ZERO),), [(ZERO, ZERO)] * 2,
                    ((ZERO, ZERO), [ZERO, ZERO]), ((ZERO, ZERO), (ONE, ZERO))):
            self.assertIs(is_limit(HALVING, UNIT, Rest(box, ((None, 0), (None, 1)), weights)), False)
        # A smaller resting box has no weights, as no row tells its ends.
        system = read_system("x - y >= 0\ny - x >= 0")
        small = ((ZERO, (1, 2)), (ZERO, (1, 2)))
        self.assertIs(rests(system, small), True)
        high = tuple(number for number, row in enumerate(system.rows) if row[0][0] < 0)[0]
        for one in range(1, 6):
            for other in range(1, 6):
                value = Rest(small, ((None, high), (None, 1 - high)), ((None, (one, 1)), (None, (other, 1))))
                self.assertIs(is_limit(system, UNIT, value), False)

    def test_rows_that_do_not_tell(self):
        system = read_system("x >= 1\nx + y <= 3\ny >= 0\nx - z >= -9")
        box = free_box(system)
        found = limit(system, box)
        self.assertEqual(found.box, (((1, 1), (3, 1)), (ZERO, (2, 1)), (None, (12, 1))))
        self.assertTrue(is_limit(system, box, found))
        for at in range(3):
            for side in (0, 1):
                for number in (None, -1, 4, True, 0, 1, 2, 3, 10 ** 30, 1.0):
                    rows = changed(found.rows, at, changed(found.rows[at], side, number))
                    value = Rest(found.box, rows, found.weights)
                    same = number == found.rows[at][side] and not isinstance(number, (bool, float))
                    self.assertIs(is_limit(system, box, value), same)

    def test_ends_that_are_not_bounded(self):
        # Ends that no row tells may not be replaced, even by a row that seems to tell them.
        system = read_system("x - y >= 0\ny - x >= 0")
        box = ((ZERO, ZERO), (ZERO, ZERO))
        for one in (0, 1):
            for other in (0, 1):
                rows = ((one, other), (other, one))
                self.assertIs(is_limit(system, FREE, Rest(box, rows, (((1, 1), (1, 1)), ((1, 2), (1, 2))))), False)

        # The ends rest, each is told by the other one, and the weights are heavy enough.
        system = read_system("2 x - y >= 0\n2 y - x >= 0")
        one = system.rows.index(((2, -1), 0))
        rows, weights = ((one, None), (1 - one, None)), ((ONE, None), (ONE, None))
        lows = ((ZERO, None), (ZERO, None))
        self.assertIs(rests(system, lows), True)
        self.assertIs(is_limit(system, FREE, Rest(lows, rows, weights)), False)
        self.assertIs(is_limit(system, (((-5, 1), None), ((-5, 1), None)), Rest(lows, rows, weights)), True)
        self.assertIs(is_limit(system, (((-5, 1), None), (None, None)), Rest(lows, rows, weights)), True)

    def test_boxes_that_do_not_rest_or_are_not_within(self):
        system = System(("x",), (((1,), 1), ((1,), 2)))
        for low, number, right in ((1, 0, False), (2, 1, True), (2, 0, False), (1, 1, False)):
            value = Rest((((low, 1), None),), ((number, None),), ((ONE, None),))
            self.assertIs(is_limit(system, ((None, None),), value), right)
            self.assertIs(is_limit(system, (((5, 1), None),), value), False)
            self.assertIs(is_limit(system, ((None, (5, 1)),), value), False)

    def test_weights_from_0_on(self):
        system = read_system("x - 2 y >= 0\ny - 2 x >= 0")
        one = system.rows.index(((1, -2), 0))
        lows, rows = ((ZERO, None), (ZERO, None)), ((one, None), (1 - one, None))
        box = (((-1, 1), None), ((-1, 1), None))
        self.assertEqual(limit(system, box).box, box)
        for weight in ((-1, 1), (-1, 10 ** 9), ZERO, ONE):
            self.assertIs(is_limit(system, box, Rest(lows, rows, ((weight, None), (weight, None)))), False)

    def test_rows_without_the_unknown(self):
        system = read_system("y >= 3\nx <= 5")
        low, high = system.rows.index(((0, 1), 3)), system.rows.index(((-1, 0), -5))
        box = ((None, None), (None, (3, 1)))
        found = ((None, (5, 1)), ((3, 1), (3, 1)))
        for number, right in ((high, True), (low, False)):
            value = Rest(found, ((None, number), (low, None)), ((None, ONE), (ONE, None)))
            self.assertIs(is_limit(system, box, value), right)

    def test_more_items(self):
        right = limit(HALVING, UNIT)
        more = (None, None)
        for rows, weights in ((right.rows + (more,), right.weights), (right.rows, right.weights + (more,)),
                              (tuple(some + (None,) for some in right.rows), right.weights),
                              (right.rows, tuple(some + (None,) for some in right.weights)),
                              (right.rows[:1], right.weights), (list(right.rows), right.weights),
                              (tuple(map(list, right.rows)), right.weights)):
            self.assertIs(is_limit(HALVING, UNIT, Rest(right.box, rows, weights)), False)

    def test_against_the_words(self):
        dice = Dice(526)
        seen = {True: 0, False: 0}
        for _ in range(600):
            system, box = any_case(dice)
            found = limit(system, box)
            if isinstance(found, Rest) and system.rows:
                at, side = dice.below(len(box)), dice.below(2)
                value = Rest(found.box, found.rows, found.weights)
                kind = dice.below(4)
                if kind == 0:
                    value.rows = changed(found.rows, at, changed(found.rows[at], side, dice.below(len(system.rows))))
                elif kind == 1 and found.weights[at][side] is not None:
                    weight = pair(frac(found.weights[at][side]) * dice.pick((Fraction(1, 3), Fraction(9, 10), 2, 5)))
                    value.weights = changed(found.weights, at, changed(found.weights[at], side, weight))
                elif kind == 2:
                    value.box = any_part(dice, found.box, ((at, side),))
                if kind == 0 and value.weights[at][side] is None:
                    value.weights = changed(value.weights, at, changed(value.weights[at], side, ONE))
                right = is_right_rest(system, box, value) if within(value.box, box) else False
                seen[right] += 1
                self.assertIs(is_limit(system, box, value), right)
        self.assertGreater(min(seen.values()), 50)


class WrongNumbers(unittest.TestCase):

    def test_numbers(self):
        numbers = limit(RISING, UNIT).numbers
        self.assertTrue(is_limit(RISING, UNIT, NoRest(numbers)))
        # The numbers for one box are not enough for a box with fewer ends.
        self.assertIs(is_limit(RISING, FREE, NoRest(numbers)), False)
        for value in no_fractions() + [(-1, 1), (-1, 3)]:
            for row in (0, 1):
                for at in (0, 1):
                    wrong = changed(numbers, row, changed(numbers[row], at, value))
                    self.assertIs(is_limit(RISING, UNIT, NoRest(wrong)), False)
        for wrong in (numbers[:1], numbers + numbers[:1], (numbers[0], numbers[1][:1]), (numbers[0], numbers[1] + (ZERO,)),
                      ((ZERO, ZERO), (ZERO, ZERO)), list(numbers), (list(numbers[0]), numbers[1])):
            self.assertIs(is_limit(RISING, UNIT, NoRest(wrong)), False)

    def test_rings_of_length_0_show_nothing(self):
        system = read_system("x - y >= 0\ny - x >= 0")
        for numbers in (((ONE, ZERO), (ZERO, ONE)), ((ZERO, ONE), (ONE, ZERO))):
            self.assertIs(is_limit(system, UNIT, NoRest(numbers)), False)
            self.assertIs(is_limit(system, FREE, NoRest(numbers)), False)

    def test_rings_above_0_show_it_where_ends_are_bounded(self):
        at = RISING.rows.index(((1, -1), 1))
        lows = changed((((ZERO, ONE),) * 2), at, (ONE, ZERO))
        highs = changed((((ONE, ZERO),) * 2), at, (ZERO, ONE))
        for box, low, high in ((UNIT, True, True), (FREE, False, False), (((ZERO, None), (None, None)), True, False),
                               (((None, None), (None, ONE)), False, True)):
            self.assertIs(is_limit(RISING, box, NoRest(lows)), low)
            self.assertIs(is_limit(RISING, box, NoRest(highs)), high)

    def test_coefficients_that_are_0(self):
        system = read_system("x >= 1\ny <= 5\nx <= 0")
        number = system.rows.index(((1, 0), 1))
        other = system.rows.index(((-1, 0), 0))
        numbers = changed(changed((((ZERO, ZERO),) * 3), number, (ONE, ZERO)), other, (ONE, ZERO))
        self.assertIs(is_limit(system, FREE, NoRest(numbers)), True)
        self.assertIs(is_limit(system, FREE, NoRest(changed(numbers, number, (ONE, ONE)))), False)
        self.assertIs(is_limit(system, FREE, NoRest(changed(numbers, number, (ZERO, ONE)))), False)

    def test_a_point_is_never_left_out(self):
        dice = Dice(527)
        for _ in range(200):
            system, box = any_case(dice)
            if isinstance(limit(system, box), Rest):
                numbers = tuple(tuple(any_fraction(dice, 3) if dice.chance(1, 2) else ZERO for _ in system.names)
                                for _ in system.rows)
                numbers = tuple(tuple((abs(share[0]), share[1]) for share in some) for some in numbers)
                self.assertIs(is_limit(system, box, NoRest(numbers)), False)

    def test_against_boxes(self):
        dice = Dice(528)
        seen = {True: 0, False: 0}
        for _ in range(500):
            system, box = any_case(dice)
            found = limit(system, box)
            if isinstance(found, NoRest):
                row, at = dice.below(len(system.rows)), dice.below(len(box))
                share = pair(Fraction(dice.below(4), dice.between(1, 3)))
                value = NoRest(changed(found.numbers, row, changed(found.numbers[row], at, share)))
                ends = bounded_ends(system, box)
                used = [end for end in used_ends(system.rows[row]) if end[0] != at]
                allowed = share == ZERO or (system.rows[row][0][at] != 0 and set(used) <= set(ends))
                right = is_limit(system, box, value)
                seen[right] += 1
                self.assertTrue(allowed or not right)
                beaten = False
                for _ in range(30):
                    part = any_part(dice, box, ends)
                    if dice.chance(1, 2) and all(end is not None for end in part[at]):
                        part = with_range(part, at, (part[at][1], part[at][1]))
                    if allowed and within(part, box) and set(ends) <= set(box_ends(part)):
                        tops, bounds = asked(system, part, value.numbers)
                        beaten = beaten or tops >= bounds
                self.assertFalse(beaten and right)
        self.assertGreater(min(seen.values()), 30)


if __name__ == "__main__":
    unittest.main()
