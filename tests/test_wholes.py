"""Points [64] to [68]: whole boxes and points, tight rows, integers chosen, and wholly single systems."""

import unittest
from itertools import permutations, product

from rowalone.bars import barring, told
from rowalone.boxes import check_box
from rowalone.court import is_single
from rowalone.eliminations import eliminations
from rowalone.errors import InvalidBox
from rowalone.systems import System, system_of
from rowalone.texts import read_system
from rowalone.wholes import (WholeGap, check_whole_box, chosen_wholes, contrary, fraction_box, is_whole_gap, rough,
                             rounded, surely_whole, tight_row, tightened, whole_gap, whole_part, whole_told)
from tests.helpers import (Anything, Dice, NAMES, any_box, any_fraction, any_row, any_system, changed, frac,
                           is_barred, is_kept, odd_values, pair, raised, sum_at)

LINE = System(("x", "y"), (((-2, -1), -1), ((2, 1), 1)))
PAIRS = System(("u", "v", "y"), (((0, 1, -1), 0), ((1, 0, 1), 1), ((1, 2, 0), 1), ((2, 1, 0), 1)))
FREE = ((None, None), (None, None))


def wrong_whole_boxes(size):
    """Values that are no whole box for so many names, each with what `InvalidBox` tells."""
    free = ((None, None),) * size
    found = [(value, -1) for value in odd_values() if not isinstance(value, tuple) or len(value) != size]
    found += [(free[1:], -1), (free + free[:1], -1), (list(free), -1)]
    items = [(1, 0), (True, None), (None, False), (0, 1.0), ((0, 1), None), (None, "1"), [0, 1], (0,), (0, 1, 2), (3, -3)]
    for at in range(size):
        found += [(changed(free, at, item), at) for item in odd_values() + items if item != (0, 1)]
    found.append((changed(changed(free, size - 1, None), 0, None), 0))
    return found


def any_whole_box(dice, size, limit, part=6):
    box = []
    for _ in range(size):
        low = dice.between(-limit, limit) if dice.chance(part, 10) else None
        high = dice.between(-limit, limit) if dice.chance(part, 10) else None
        if low is not None and high is not None:
            low, high = min(low, high), max(low, high)
        box.append((low, high))
    return tuple(box)


def keeps_whole(row, point):
    return sum(number * value for number, value in zip(row[0], point)) >= row[1]


def wholes_in(box, far=12):
    """The whole points in a box, as far as they are near."""
    return product(*[range(-far if low is None else low, (far if high is None else high) + 1) for low, high in box])


def ceiling(value):
    return None if value is None else -(-value[0] // value[1])


def floor(value):
    return None if value is None else value[0] // value[1]


def whole_ends(system, box):
    return tuple((ceiling(low), floor(high)) for low, high in told(system, fraction_box(box)))


def is_right_gap(system, gap):
    """By the words, for a WholeGap with attributes of the right kinds; boxes with all ends."""
    if any(is_barred(row, fraction_box(gap.box)) for row in system.rows):
        return False
    for point in wholes_in(gap.box):
        number = gap.one if point[gap.at] <= gap.value else gap.other
        if keeps_whole(system.rows[number], point):
            return False
    return True


def has_whole(system, box):
    return any(all(keeps_whole(row, point) for row in system.rows) for point in wholes_in(box))


class Boxes(unittest.TestCase):

    def test_checks(self):
        system = System(("x", "y", "z"), ())
        for value, at in wrong_whole_boxes(3):
            self.assertEqual(raised(check_whole_box, system, value), ("InvalidBox", at), value)
        for box in (((None, None),) * 3, ((0, 0), (-10 ** 12, None), (None, 7)), ((-1, 1), (0, 1), (5, 5))):
            self.assertIsNone(check_whole_box(system=system, value=box))
        self.assertEqual(raised(check_whole_box, system, (((0, 1), (1, 1)),) * 3), ("InvalidBox", 0))

    def test_boxes_are_checked_first(self):
        for value, at in wrong_whole_boxes(2):
            self.assertEqual(raised(whole_told, LINE, value), ("InvalidBox", at), value)
            self.assertEqual(raised(chosen_wholes, LINE, value, (0, 1), (0, 0)), ("InvalidBox", at), value)

    def test_fraction_boxes(self):
        self.assertEqual(fraction_box(((-3, None), (None, 0), (2, 2))), (((-3, 1), None), (None, (0, 1)), ((2, 1), (2, 1))))
        self.assertEqual(fraction_box(box=()), ())

    def test_whole_parts(self):
        for value in odd_values() + [((0, 1), (0, 1)), (((0, 1), (0, 1)),), (((1, 1), (0, 1)), (None, None))]:
            try:
                check_box(LINE, value)
            except InvalidBox as error:
                self.assertEqual(raised(whole_part, LINE, value), ("InvalidBox", error.at))
        self.assertEqual(whole_part(LINE, (((-3, 2), (3, 2)), (None, (2, 1)))), ((-1, 1), (None, 2)))
        self.assertIsNone(whole_part(LINE, ((None, None), ((1, 3), (2, 3)))))
        self.assertEqual(whole_part(system=LINE, box=((None, None), ((2, 1), (2, 1)))), ((None, None), (2, 2)))

    def test_whole_parts_by_the_words(self):
        dice = Dice(551)
        for _ in range(200):
            box = any_box(dice, 2, 4, 8)
            points = [point for point in wholes_in(FREE, 6)
                      if all((low is None or frac(low) <= value) and (high is None or value <= frac(high))
                             for value, (low, high) in zip(point, box))]
            part = whole_part(LINE, box)
            self.assertEqual(points, [] if part is None else list(wholes_in(part, 6)))

    def test_rounded(self):
        self.assertEqual(rounded(((1, 2), (-1, 2), (-5, 3))), (0, -1, -2))
        self.assertEqual(rounded(((3, 2), (-3, 2), (5, 3), (4, 3), (7, 1), (-7, 1), (0, 1))), (1, -2, 2, 1, 7, -7, 0))
        self.assertEqual(rounded(point=((10 ** 30 + 1, 2), (-10 ** 30 - 1, 2))), (5 * 10 ** 29, -5 * 10 ** 29 - 1))
        dice = Dice(552)
        for _ in range(300):
            value = any_fraction(dice, 12)
            found = rounded((value,))[0]
            best = min(range(-13, 14), key=lambda whole: (abs(whole - frac(value)), whole))
            self.assertEqual(found, best)

    def test_rounded_points_of_rows(self):
        dice = Dice(553)
        for _ in range(300):
            size = dice.between(1, 4)
            row, point = any_row(dice, size, 4, 4), tuple(any_fraction(dice, 4) for _ in range(size))
            if is_kept(row, point):
                near = tuple((value, 1) for value in rounded(point))
                self.assertLessEqual(row[1] - sum_at(row, near), sum(map(abs, row[0])) // 2)


class Rows(unittest.TestCase):

    def test_examples(self):
        self.assertEqual((tight_row(((2, -4), 1)), contrary(((2, -4), 1))), (((1, -2), 1), ((-1, 2), 0)))

    def test_by_whole_points(self):
        dice = Dice(554)
        tight = 0
        for _ in range(300):
            size = dice.between(1, 3)
            row = any_row(dice, size, 4, 6)
            one, other = tight_row(row=row), contrary(row=row)
            tight += one != row
            for some in (one, other):
                self.assertEqual(system_of(NAMES[:size], (some,)).rows, (some,))
                self.assertNotIn(0, [sum(number % divisor for number in some[0]) for divisor in range(2, 5)])
            for point in wholes_in(((-4, 4),) * size):
                self.assertIs(keeps_whole(one, point), keeps_whole(row, point))
                self.assertIs(keeps_whole(other, point), not keeps_whole(row, point))
            self.assertEqual(tight_row(contrary(other)), one)
        self.assertGreater(tight, 30)

    def test_tightened(self):
        system = read_system("2 x - 4 y >= 1\nx - 2 y >= 0\n3 x >= -2\nx >= 0")
        self.assertEqual(tightened(system=system), read_system("x - 2 y >= 1\nx >= 0"))
        self.assertEqual(tightened(System(("x",), ())), System(("x",), ()))
        self.assertEqual(tightened(LINE), LINE)
        dice = Dice(555)
        for _ in range(100):
            system = any_system(dice, dice.between(1, 3), dice.between(0, 5), 4, 6)
            tight, box = tightened(system), any_whole_box(dice, len(system.names), 4, 9)
            self.assertEqual(tight, system_of(system.names, tuple(tight_row(row) for row in system.rows)))
            self.assertEqual(bool(barring(system, fraction_box(box))), bool(barring(tight, fraction_box(box))))
            if not barring(system, fraction_box(box)):
                self.assertEqual(whole_told(system, box), whole_told(tight, box))

    def test_tightened_systems_tell_the_same(self):
        dice = Dice(556)
        for _ in range(200):
            system = any_system(dice, dice.between(1, 3), dice.between(0, 5), 4, 6)
            box = any_whole_box(dice, len(system.names), 6, 5)
            self.assertEqual(whole_told(system, box), whole_told(tightened(system), box))

    def test_rows_bar_boxes_without_whole_points(self):
        dice = Dice(557)
        for _ in range(200):
            row, box = any_row(dice, 2, 4, 8), any_whole_box(dice, 2, 3, 10)
            kept = any(keeps_whole(row, point) for point in wholes_in(box))
            self.assertIs(is_barred(row, fraction_box(box)), not kept)


class Told(unittest.TestCase):

    def test_ordinary_inputs(self):
        self.assertEqual(whole_told(LINE, ((None, None), (0, 0))), ((1, 0), (0, 0)))
        self.assertEqual(whole_told(LINE, ((None, None), (1, 1))), ((0, 0), (1, 1)))
        self.assertEqual(whole_told(box=FREE, system=LINE), FREE)
        self.assertEqual(whole_told(System(("x",), ()), ((None, 10 ** 12),)), ((None, 10 ** 12),))
        self.assertEqual(whole_told(read_system("2 x >= 1\n3 x <= 20"), ((None, None),)), ((1, 6),))

    def test_by_the_words(self):
        dice = Dice(558)
        for _ in range(200):
            system = any_system(dice, dice.between(1, 3), dice.between(0, 5), 3, 4)
            box = any_whole_box(dice, len(system.names), 5)
            self.assertEqual(whole_told(system, box), whole_ends(system, box))


class Chosen(unittest.TestCase):

    def test_barred(self):
        self.assertEqual(raised(chosen_wholes, LINE, ((1, None), (0, None)), (0, 1), (0, 0)), ("Refused", "barred"))

    def test_ordinary_inputs(self):
        self.assertEqual(chosen_wholes(LINE, FREE, (0, 1), (7, 7)), (7, -13))
        self.assertEqual(chosen_wholes(order=(1, 0), wishes=(9, 3), box=FREE, system=LINE), (-1, 3))
        found = chosen_wholes(LINE, FREE, (1, 0), (9, 2))
        self.assertIsInstance(found, WholeGap)
        self.assertEqual((found.at, found.box), (0, ((None, None), (2, 2))))
        self.assertEqual((found.one, found.other, found.value), (1, 0, -1))
        self.assertIs(is_whole_gap(LINE, found), True)
        system = read_system("2 x >= 1\n3 x <= 20")
        self.assertEqual([chosen_wholes(system, ((None, None),), (0,), (wish,)) for wish in (-5, 1, 4, 6, 9)],
                         [(1,), (1,), (4,), (6,), (6,)])

    def test_by_the_words(self):
        dice = Dice(559)
        seen = {"barred": 0, "gap": 0, "point": 0}
        for _ in range(500):
            system = any_system(dice, dice.between(1, 3), dice.between(0, 5), 3, 3)
            size = len(system.names)
            box = any_whole_box(dice, size, 4, dice.between(4, 10))
            wishes, order = tuple(dice.between(-5, 5) for _ in range(size)), dice.pick(list(permutations(range(size))))
            if barring(system, fraction_box(box)):
                seen["barred"] += 1
                self.assertEqual(raised(chosen_wholes, system, box, order, wishes), ("Refused", "barred"))
                continue
            left, stuck = box, None
            for at in order:
                low, high = whole_ends(system, left)[at]
                if low is not None and high is not None and low > high:
                    stuck = (left, at)
                    break
                value = wishes[at]
                value = value if low is None else max(low, value)
                value = value if high is None else min(high, value)
                left = changed(left, at, (value, value))
            found = chosen_wholes(system, box, order, wishes)
            if stuck is None:
                seen["point"] += 1
                self.assertEqual(found, tuple(low for low, _ in left))
                self.assertTrue(all(keeps_whole(row, found) for row in system.rows))
            else:
                seen["gap"] += 1
                self.assertEqual((found.box, found.at), stuck)
                self.assertIs(is_whole_gap(system, found), True)
                self.assertFalse(has_whole(system, found.box))
        self.assertGreater(min(seen.values()), 30, seen)


class Gaps(unittest.TestCase):

    def test_a_gap_of_any_values(self):
        thing = Anything()
        gap = WholeGap(one=thing, other=None, at="x", value=[1], box=1.5)
        self.assertEqual((gap.one, gap.other, gap.at, gap.value, gap.box), (thing, None, "x", [1], 1.5))
        self.assertEqual(sorted(vars(WholeGap(1, 2, 3, 4, 5)).items()),
                         [("at", 3), ("box", 5), ("one", 1), ("other", 2), ("value", 4)])

    def test_any_value(self):
        right = (1, 0, 0, -1, ((None, None), (2, 2)))
        self.assertIs(is_whole_gap(LINE, WholeGap(*right)), True)
        for value in odd_values() + [right, (1, 0), [1], (2, 2), WholeGap]:
            self.assertIs(is_whole_gap(system=LINE, value=value), False)
            self.assertIs(is_whole_gap(LINE, WholeGap(value, value, value, value, value)), False)
            for place in range(5):
                if isinstance(value, bool) or value != right[place]:
                    self.assertIs(is_whole_gap(LINE, WholeGap(*changed(right, place, value))), False, (place, value))

    def test_right_numbers(self):
        right = (1, 0, 0, -1, ((None, None), (2, 2)))
        for place, value in ((0, 0), (0, 2), (0, -1), (0, True), (1, 1), (1, 2), (1, -2), (1, False), (2, 1), (2, 2),
                             (2, -1), (2, False), (3, 0), (3, -2), (3, -1.0), (4, ((None, None), (1, 1))),
                             (4, ((None, None), (3, 3))), (4, ((None, None), (2, 3))), (4, ((None, None),)),
                             (4, ((None, None), ((2, 1), (2, 1)))), (4, ((None, None), (3, 2))),
                             (4, ((0, 5), (2, 2))), (4, ((-9, -2), (2, 2)))):
            self.assertIs(is_whole_gap(LINE, WholeGap(*changed(right, place, value))), False, (place, value))
        for box in (((-1, 0), (2, 2)), ((-5, None), (2, 2)), ((None, 7), (2, 2))):
            self.assertIs(is_whole_gap(LINE, WholeGap(*changed(right, 4, box))), True)
        self.assertIs(is_whole_gap(LINE, WholeGap(*changed(changed(right, 4, ((None, None), (4, 4))), 3, -2))), True)

    def test_values_beyond_the_box(self):
        # No whole point of the box is beyond the value, so one row alone would bar it.
        system = read_system("x + y >= 1\nx - y >= 1\nx <= 9")
        for one in range(3):
            for other in range(3):
                for at in (0, 1):
                    for value in range(-3, 4):
                        gap = WholeGap(one, other, at, value, ((0, 1), (-1, 1)))
                        self.assertIs(is_whole_gap(system, gap), is_right_gap(system, gap))

    def test_by_the_words(self):
        dice = Dice(560)
        seen = {True: 0, False: 0}
        for _ in range(200):
            numbers, bound = any_row(dice, 2, 3, 2)
            other = (tuple(-number for number in numbers), -bound - dice.below(2))
            system = system_of(("x", "y"), ((numbers, bound), other, any_row(dice, 2, 2, 2)))
            many = len(system.rows)
            box = any_whole_box(dice, 2, 2, 10)
            for one, two, at, value in product(range(many), range(many), (0, 1), range(-3, 4)):
                gap = WholeGap(one, two, at, value, box)
                right = is_right_gap(system, gap)
                seen[right] += 1
                self.assertIs(is_whole_gap(system, gap), right)
        self.assertGreater(min(seen.values()), 20, seen)


class WhichSystems(unittest.TestCase):

    def test_examples(self):
        self.assertEqual((is_single(LINE), rough(LINE), is_whole_gap(LINE, whole_gap(LINE, 1))), (True, (0,), True))
        self.assertEqual((is_single(PAIRS), whole_gap(PAIRS, 1)), (False, None))

    def test_rough(self):
        self.assertEqual(rough(System(("x",), ())), ())
        self.assertEqual(rough(read_system("2 x - y >= 0\n-x + 3 y >= 0\n-2 x + 2 y >= 1\n-2 y >= 1")), (0, 1))
        self.assertEqual(rough(read_system("2 x >= 1\nx - y >= 0\n-x >= 0\n-5 y >= 2")), ())
        self.assertEqual(rough(system=read_system("2 x >= 1\n-2 x >= 1")), (0,))
        self.assertEqual(rough(read_system("x >= 1\n-5 x - y >= 1\ny >= 3\n-2 y - x >= 0")), ())

    def test_surely_whole(self):
        self.assertIs(surely_whole(LINE), False)
        self.assertIs(surely_whole(PAIRS), False)
        self.assertIs(surely_whole(System(("x",), ())), True)
        # Rows that become tight are no longer rough.
        self.assertIs(surely_whole(read_system("2 x - 2 y >= 1\n-2 x + 2 y >= -5")), True)
        self.assertIs(surely_whole(system=read_system("x - y >= 0\ny - z >= 0")), False)
        self.assertIs(surely_whole(read_system("2 x >= 1\n2 x <= 1")), False)
        dice = Dice(561)
        seen = {True: 0, False: 0}
        for _ in range(200):
            system = any_system(dice, dice.between(1, 2), dice.between(0, 4), 3, 2)
            tight = tightened(system)
            found = surely_whole(system)
            seen[found] += 1
            self.assertIs(found, is_single(tight) and not rough(tight))
            if found:
                self.assertIsNone(whole_gap(system, 2))
        self.assertGreater(min(seen.values()), 20)

    def test_too_many_triples(self):
        for more, error in ((0, None), (1, ("Refused", "wide"))):
            system = triples_system(more)
            self.assertEqual(raised(eliminations, system), error)
            self.assertEqual(raised(surely_whole, system), error)
            # Also without an answer for the size, and after it has been looked at.
            self.assertEqual(raised(whole_gap, system, 1), ("Refused", "wide"))
            self.assertEqual(raised(whole_gap, system, "1"), ("InvalidNumber", "size"))
            self.assertEqual(raised(whole_gap, system, 0), error)

    def test_sizes(self):
        for value in odd_values() + [-1, True, False, 1.0, "1", (1,), None, -10 ** 30]:
            if isinstance(value, bool) or value not in (0, 1, 7, 10 ** 30):
                self.assertEqual(raised(whole_gap, LINE, value), ("InvalidNumber", "size"), value)
        self.assertEqual(raised(whole_gap, LINE, 10 ** 30), ("Refused", "wide"))

    def test_wide_products(self):
        # One unknown: (2 n + 1) (n + 1) boxes, times the triples.
        one = System(("x",), (((-1,), 0), ((1,), 0)))
        self.assertEqual(raised(whole_gap, one, 99), None)
        self.assertEqual(raised(whole_gap, one, 100), ("Refused", "wide"))
        # 199 * 100 = 19,900 and 201 * 101 = 20,301; then 91 * 91 * 2 = 16,562 and 120 * 120 * 2 = 28,800.
        self.assertEqual(raised(whole_gap, system=read_system("x - y >= 0\ny - x >= 0"), size=6), None)
        self.assertEqual(raised(whole_gap, read_system("x - y >= 0\ny - x >= 0"), 7), ("Refused", "wide"))
        # With one unknown 28 boxes up to 3: 17 * 42 * 28 = 19,992 and 24 * 30 * 28 = 20,160.
        self.assertIsNone(raised(whole_gap, many_bounds(17, 42), 3))
        self.assertEqual(raised(whole_gap, many_bounds(24, 30), 3), ("Refused", "wide"))
        # Without triples there is nothing to look at, however many boxes there are.
        for size in (0, 1, 10 ** 30):
            self.assertIsNone(whole_gap(System(NAMES, ()), size))
            self.assertIsNone(whole_gap(read_system("x + 2 y >= 1\nx >= 7"), size))

    def test_size_0(self):
        self.assertIsNone(whole_gap(LINE, 0))
        found = whole_gap(System(("x", "y"), (((-1, 2), 1), ((1, -2), -1))), 0)
        self.assertIsNone(found)

    def test_by_the_words(self):
        dice = Dice(562)
        seen = {True: 0, False: 0}
        for _ in range(250):
            size = dice.between(1, 2)
            system = any_system(dice, size, dice.between(0, 4), 3, 3)
            limit = dice.between(0, 2 if size == 1 else 1)
            found = whole_gap(size=limit, system=system)
            ranges = [(low, high) for low in range(-limit, limit + 1) for high in range(low, limit + 1)]
            lost = [box for box in product(ranges, repeat=size)
                    if not barring(system, fraction_box(box)) and not has_whole(system, box)]
            seen[bool(lost)] += 1
            self.assertEqual(found is not None, bool(lost))
            if found is not None:
                self.assertIs(is_whole_gap(system, found), True)
                self.assertIn(found.box, lost)
        self.assertGreater(min(seen.values()), 20, seen)

    def test_no_boxes_beyond_the_size(self):
        # 4 x is 3 y, or one less or more: only where y is 2 or -2 no integer is left.
        system = read_system("4 x - 3 y >= -1\n4 x - 3 y <= 1")
        self.assertIsNone(whole_gap(system, 1))
        found = whole_gap(system, 2)
        self.assertIn(found.box[1], ((2, 2), (-2, -2)))
        self.assertIs(is_whole_gap(system, found), True)

    def test_gaps_lead_all_orders_to_gaps(self):
        dice = Dice(563)
        checked = 0
        while checked < 30:
            system = any_system(dice, 2, 3, 3, 2)
            found = whole_gap(system, 1)
            if found is not None:
                checked += 1
                for order in ((0, 1), (1, 0)):
                    wishes = (dice.between(-2, 2), dice.between(-2, 2))
                    self.assertIsInstance(chosen_wholes(system, found.box, order, wishes), WholeGap)

    def test_fractions_between_integers(self):
        # No row bars the box and its ends are fractions for the row, but no integers: 2 x = 1.
        system = read_system("2 x = 1")
        found = whole_gap(system, 1)
        self.assertEqual((found.at, found.value), (0, 0))
        self.assertIs(is_whole_gap(system, found), True)
        self.assertEqual(whole_told(system, ((0, 1),)), ((1, 0),))
        self.assertEqual(frac(pair(frac((1, 2)))), frac((1, 2)))


def many_bounds(lows, highs):
    """A system of one unknown with so many lows and highs, about 0."""
    return System(("x",), tuple(sorted([((number + 2,), -1) for number in range(lows)]
                                       + [((-number - 2,), -1) for number in range(highs)])))


def triples_system(more):
    """A system with 3,000 triples, or with one more."""
    rows = [((100 + number, 1, 1, 1, 1, more if number == 0 else 0), number) for number in range(25)]
    rows += [((-200 - number, -1, -1, -1, -1, -more if number == 0 else 0), -number) for number in range(24)]
    return system_of(NAMES, tuple(rows))


if __name__ == "__main__":
    unittest.main()
