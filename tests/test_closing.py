"""Points [39] to [44]: least single systems, needless rows, rounds, and what is alike."""

import unittest
from itertools import product

from rowalone.closing import (are_alike, least_single, needless, parting_solution, rounds, tight_point, trimmed,
                              with_row)
from rowalone.court import is_single
from rowalone.eliminations import all_triples, eliminated
from rowalone.papers import plain_sum, point_or_paper
from rowalone.patterns import outer_rows
from rowalone.systems import System, follows, least_form, system_of
from rowalone.texts import read_system, show_system
from tests.helpers import (Anything, Dice, NAMES, any_row, any_system, is_kept, loose_system, odd_values, raised, sum_at,
                           wide_rows, without)

ROAD = read_system("a - b >= 1\nb - c >= 1\nc - d >= 1")
BARRED = read_system("x >= 1\nx <= 0")


def curve(many):
    """Rows that all are needed: p^2 x + q^2 y >= 2 p q, which touch the curve x y = 1."""
    return tuple(((p * p, (many + 1 - p) ** 2), 2 * p * (many + 1 - p)) for p in range(1, many + 1))


def curve_and_high(many):
    """Such rows and a high for x, which makes one more row."""
    return system_of(("x", "y"), curve(many) + (((-1, 0), -10 ** 4),))


def has_solution(system):
    return point_or_paper(system, ((None, None),) * len(system.names))[0] == "point"


def is_plain_sum(rows, row, names):
    return plain_sum(System(names, tuple(sorted(rows))), row) is not None


def trim_by_words(names, rows):
    """All rows that are no plain sums of the others."""
    return tuple(sorted(row for row in rows if not is_plain_sum([one for one in rows if one != row], row, names)))


def round_by_words(system):
    rows = set(system.rows)
    for one, other, at in all_triples(system):
        row = eliminated(system.rows[one], system.rows[other], at)
        if row is not None and plain_sum(system, row) is None:
            rows.add(row)
    return trim_by_words(system.names, sorted(rows))


def all_outer_rows(system):
    found = {row for signs in product((1, -1), repeat=len(system.names)) for row in outer_rows(system, signs)}
    return tuple(sorted(found))


def any_sums(dice, system):
    """The system with some rows more that hold: sums of its rows, with bounds that may be lower."""
    rows = list(system.rows)
    for _ in range(3):
        shares = [dice.between(0, 2) for _ in system.rows]
        numbers = tuple(sum(share * row[0][at] for share, row in zip(shares, system.rows))
                        for at in range(len(system.names)))
        row = least_form(numbers, sum(share * row[1] for share, row in zip(shares, system.rows)) - dice.below(2))
        rows += [row] if row is not None else []
    return System(system.names, tuple(sorted(set(rows))))


class Examples(unittest.TestCase):

    def test_needless(self):
        self.assertEqual(needless(read_system("x + y >= 0\nx >= 0\ny >= 0")), (2,))
        self.assertEqual(needless(read_system("x + y >= 0\nx - y >= 0\nx >= -1")), ())

    def test_least_single(self):
        self.assertEqual(show_system(least_single(read_system("x + y >= 0\nx - y >= 0\nx >= -1"))),
                         "x - y >= 0\nx >= 0\nx + y >= 0")

    def test_rounds(self):
        self.assertEqual([len(item.rows) for item in rounds(ROAD)], [3, 5, 6])
        self.assertEqual(show_system(rounds(ROAD)[1]), "c - d >= 1\nb - c >= 1\nb - d >= 2\na - b >= 1\na - c >= 2")


class Least(unittest.TestCase):

    def test_systems_without_a_solution(self):
        for system in (BARRED, read_system("x + y >= 1\nx - y >= 1\nx <= 0"), read_system("x = 1\nx - y = 0\ny = 2")):
            for call in (least_single, rounds):
                self.assertEqual(raised(call, system), ("Refused", "none"))

    def test_small_systems(self):
        for system in (System(("x",), ()), System(NAMES, ()), read_system("x >= 1"), read_system("2 x = 1")):
            self.assertEqual(least_single(system=system), system)
            self.assertEqual(rounds(system=system), (system,))

    def test_by_the_words(self):
        dice = Dice(511)
        more = checked = 0
        while checked < 120:
            system = any_system(dice, dice.between(1, 3), dice.between(0, 5), 2, 2)
            if not has_solution(system):
                self.assertEqual(raised(least_single, system), ("Refused", "none"))
                continue
            checked += 1
            least = least_single(system)
            items = rounds(system)
            self.assertEqual(items[0], trimmed(system))
            for one, other in zip(items, items[1:] + items[-1:]):
                self.assertEqual(other.rows, round_by_words(one))
            self.assertTrue(all(one != other for one, other in zip(items, items[1:])))
            self.assertLessEqual(len(items), len(system.names))
            more += len(items) > 2
            self.assertEqual(least, items[-1])
            self.assertEqual(least.rows, all_outer_rows(system))
            self.assertEqual(least.names, system.names)
            self.assertTrue(is_single(least) and are_alike(least, system))
            # The rows do not matter, only the solutions.
            self.assertEqual(least_single(any_sums(dice, system)), least)
            self.assertEqual(needless(least), ())
        self.assertGreater(more, 5)

    def test_outer_rows_are_those_with_the_signs(self):
        dice = Dice(512)
        checked = 0
        while checked < 40:
            system = any_system(dice, dice.between(1, 3), dice.between(1, 4), 2, 2)
            if has_solution(system):
                checked += 1
                signs = tuple(dice.between(-1, 1) for _ in system.names)
                some = [row for row in least_single(system).rows
                        if all(number * sign > 0 or number == 0 for number, sign in zip(row[0], signs))]
                self.assertEqual(tuple(some), outer_rows(system, signs))

    def test_single_systems_have_all_rows_of_the_least_one(self):
        dice = Dice(513)
        checked = 0
        while checked < 30:
            system = any_sums(dice, any_system(dice, dice.between(2, 3), dice.between(1, 4), 1, 1))
            if has_solution(system) and is_single(system):
                checked += 1
                for row in least_single(system).rows:
                    self.assertTrue(any(follows(one, row) and follows(row, one) for one in system.rows))

    def test_sixty_rows_and_more(self):
        self.assertEqual(len(least_single(curve_and_high(58)).rows), 60)
        self.assertEqual(len(curve_and_high(59).rows), 60)
        for call in (least_single, rounds):
            self.assertEqual(raised(call, curve_and_high(59)), ("Refused", "wide"))
        system = system_of(("x", "y"), curve(60))
        self.assertEqual((least_single(system), rounds(system)), (system, (system,)))

    def test_errors_in_their_order(self):
        # Rows that contradict each other are more important than too many.
        system = system_of(("x", "y"), curve(57) + (((-1, 0), -1), ((0, -1), -1), ((-1, -1), 1)))
        self.assertEqual(raised(least_single, system), ("Refused", "none"))

    def test_six_names(self):
        chain = System(NAMES, tuple(sorted(((0,) * at + (1, -1) + (0,) * (4 - at), at) for at in range(5))))
        least = least_single(chain)
        self.assertEqual(len(least.rows), 15)
        self.assertIn(((1, 0, 0, 0, 0, -1), 10), least.rows)
        self.assertEqual([len(item.rows) for item in rounds(chain)], [5, 9, 14, 15])
        dice = Dice(514)
        self.assertEqual(raised(least_single, loose_system(dice, 6, 60, 10 ** 3, 10 ** 4)), ("Refused", "wide"))
        self.assertEqual(raised(least_single, any_system(dice, 6, 60, 2, 3)), ("Refused", "none"))


class Needless(unittest.TestCase):

    def test_by_the_words(self):
        dice = Dice(515)
        some = 0
        for _ in range(300):
            system = any_system(dice, dice.between(2, 3), dice.between(0, 10), 2, 1)
            rows = system.rows
            found = needless(system=system)
            some += len(found)
            self.assertEqual(found, tuple(at for at in range(len(rows))
                                          if is_plain_sum(without(rows, at), rows[at], system.names)))
            left = trimmed(system=system)
            self.assertEqual(left, System(system.names, tuple(row for at, row in enumerate(rows) if at not in found)))
            for row in rows:
                self.assertIsNotNone(plain_sum(left, row))
            self.assertEqual(needless(left), ())
            self.assertIs(is_single(left), is_single(system))
        self.assertGreater(some, 50)

    def test_systems_without_a_solution(self):
        self.assertEqual((needless(BARRED), trimmed(BARRED)), ((), BARRED))
        system = read_system("x >= 1\nx <= 0\ny >= 0\nx + y >= 1\nx + y <= 0\nx + 2 y >= 0")
        self.assertEqual([system.rows[at] for at in needless(system)], [((1, 1), 1), ((1, 2), 0)])
        self.assertEqual(len(trimmed(system).rows), 4)

    def test_rows_that_follow(self):
        system = System(("x",), (((1,), 0), ((2,), 1), ((3,), 2)))
        self.assertEqual((needless(system), trimmed(system).rows), ((0, 1), (((3,), 2),)))

    def test_sixty_rows(self):
        wide = System(("x", "y"), wide_rows(60))
        self.assertEqual(needless(wide), tuple(range(1, 59)))
        self.assertEqual(trimmed(wide).rows, (((1, 0), 0), ((1, 59), 0)))


class Alike(unittest.TestCase):

    def test_names(self):
        one, other = read_system("x >= 0"), read_system("y >= 0")
        for call in (parting_solution, are_alike):
            self.assertEqual(raised(call, one, other), ("Refused", "names"))
            self.assertEqual(raised(call, BARRED, other), ("Refused", "names"))
            self.assertEqual(raised(call, one, read_system("x >= 0", ("y",))), ("Refused", "names"))

    def test_ordinary_inputs(self):
        one, other = read_system("x + y >= 0\nx - y >= 0"), read_system("x >= 0", ("y",))
        self.assertIsNone(parting_solution(one, other))
        point = parting_solution(other=one, one=other)
        self.assertTrue(is_kept(((1, 0), 0), point) and not all(is_kept(row, point) for row in one.rows))
        self.assertIs(are_alike(one, other), False)
        self.assertIs(are_alike(other=read_system("x >= 0\nx + y >= 0\nx - y >= 0"), one=one), True)
        self.assertIs(are_alike(one, one), True)

    def test_systems_without_a_solution(self):
        other = read_system("x >= 5\nx <= 3")
        self.assertIs(are_alike(BARRED, other), True)
        self.assertIsNone(parting_solution(BARRED, System(("x",), ())))
        self.assertIsNotNone(parting_solution(System(("x",), ()), BARRED))
        self.assertIs(are_alike(BARRED, read_system("x >= 0")), False)
        self.assertIs(are_alike(read_system("x >= 0"), BARRED), False)

    def test_by_least_single_systems(self):
        dice = Dice(516)
        seen = {True: 0, False: 0}
        for _ in range(150):
            one = any_system(dice, 2, dice.between(1, 4), 1, 1)
            other = any_sums(dice, one) if dice.chance(1, 2) else any_system(dice, 2, dice.between(1, 4), 1, 1)
            for some, others in ((one, other), (other, one)):
                point = parting_solution(some, others)
                if point is not None:
                    self.assertTrue(all(is_kept(row, point) for row in some.rows))
                    self.assertFalse(all(is_kept(row, point) for row in others.rows))
            if has_solution(one) and has_solution(other):
                same = least_single(one) == least_single(other)
                seen[same] += 1
                self.assertIs(are_alike(one, other), same)
        self.assertGreater(min(seen.values()), 30)

    def test_far_points(self):
        one, other = System(("x", "y"), ()), read_system("x + 1000000 y >= -1000000")
        point = parting_solution(one, other)
        self.assertLess(sum_at(other.rows[0], point), -10 ** 6)


class OneRowMore(unittest.TestCase):

    def test_ordinary_inputs(self):
        system = with_row(ROAD, ((0, 0, 0, 1), 0))
        self.assertEqual(show_system(system).split("\n")[0], "d >= 0")
        self.assertEqual(len(system.rows), 10)
        self.assertEqual(with_row(row=((1,), 2), system=System(("x",), (((1,), 3),))).rows, (((1,), 3),))
        self.assertEqual(with_row(System(("x",), (((1,), 3),)), ((2,), 7)).rows, (((2,), 7),))

    def test_errors_in_their_order(self):
        wide = system_of(("x", "y"), curve(60))
        # More than 60 rows come first, although there is no solution then.
        self.assertEqual(raised(with_row, wide, ((-1, -1), 10 ** 6)), ("Refused", "wide"))
        self.assertEqual(raised(with_row, system_of(("x", "y"), curve(59)), ((-1, -1), 10 ** 6)),
                         ("Refused", "none"))
        self.assertEqual(raised(with_row, system_of(("x", "y"), curve(59)), ((-1, 0), -10 ** 4)),
                         ("Refused", "wide"))
        self.assertEqual(len(with_row(system_of(("x", "y"), curve(58)), ((-1, 0), -10 ** 4)).rows), 60)
        # A row that follows from the others, or from which one of them does, is none more.
        self.assertEqual(with_row(wide, (curve(60)[7][0], 0)), wide)
        self.assertEqual(raised(with_row, BARRED, ((1,), 0)), ("Refused", "none"))

    def test_by_the_words(self):
        dice = Dice(517)
        checked = 0
        while checked < 60:
            size = dice.between(1, 3)
            system, row = any_system(dice, size, dice.between(0, 4), 2, 2), any_row(dice, size, 2, 2)
            both = system_of(system.names, system.rows + (row,))
            if not has_solution(both):
                self.assertEqual(raised(with_row, system, row), ("Refused", "none"))
                continue
            checked += 1
            self.assertEqual(with_row(system, row), least_single(both))
            least = least_single(system)
            if is_single(system):
                used = sum(number != 0 for number in row[0])
                self.assertLessEqual(len(rounds(both)), 1 + used)
            self.assertEqual(with_row(least, row), with_row(system, row))


class Tight(unittest.TestCase):

    def test_values_that_are_no_numbers_of_rows(self):
        for value in odd_values() + [-1, 3, 10 ** 30, True, False, 0.0, "0", (0,), Anything()]:
            if isinstance(value, bool) or value not in (0, 1):
                self.assertEqual(raised(tight_point, ROAD, value), ("InvalidNumber", "row"), value)
        self.assertEqual(raised(tight_point, System(("x",), ()), 0), ("InvalidNumber", "row"))
        self.assertEqual(raised(tight_point, BARRED, 2), ("InvalidNumber", "row"))

    def test_by_the_words(self):
        dice = Dice(518)
        seen = {True: 0, False: 0}
        for _ in range(120):
            system = any_system(dice, dice.between(1, 3), dice.between(1, 5), 2, 3)
            for at, row in enumerate(system.rows):
                point = tight_point(at=at, system=system)
                seen[point is None] += 1
                if point is not None:
                    self.assertEqual(sum_at(row, point), row[1])
                    self.assertTrue(all(is_kept(one, point) for one in system.rows))
                elif has_solution(system):
                    self.assertTrue(are_alike(system, System(system.names, without(system.rows, at))))
                    below = System(system.names, without(system.rows, at))
                    opposite = (tuple(-number for number in row[0]), -row[1])
                    self.assertFalse(has_solution(system_of(below.names, below.rows + (opposite,))))
            if has_solution(system):
                least = least_single(system)
                for at in range(len(least.rows)):
                    self.assertIsNotNone(tight_point(least, at))
        self.assertGreater(min(seen.values()), 40)

    def test_systems_without_a_solution(self):
        self.assertIsNone(tight_point(BARRED, 0))
        self.assertIsNone(tight_point(BARRED, 1))


if __name__ == "__main__":
    unittest.main()
