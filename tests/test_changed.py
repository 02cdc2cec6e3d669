"""Points [49] and [50]: values put in, unknowns doubled, and two unknowns made one."""

import unittest

from rowalone.changed import doubled, lost_at, made_one, put_in
from rowalone.court import Single, court, is_single
from rowalone.eliminations import MOST_TRIPLES, joined_rows
from rowalone.papers import plain_sum
from rowalone.systems import System, least_form, system_of
from rowalone.texts import read_system, show_system
from tests.helpers import (Dice, NAMES, any_fraction, any_system, frac, is_kept, no_fractions, odd_values,
                           points_on_grid, raised, without)

LINE = read_system("x - y >= 0\ny - z >= 1")
GRID = ((-2, 1), (-1, 2), (0, 1), (1, 3), (3, 1))


def wrong_names(system):
    """Values that are no name of a system."""
    return [value for value in odd_values() if value != "x"] + ["w", "xx", "X", "", ("x",), b"x", 0]


def lost(system, at):
    """The triples of [50], however many there are, by the words of the document."""
    found = []
    for one, row in enumerate(system.rows):
        for other, further in enumerate(system.rows):
            if row[0][at] > 0 > further[0][at]:
                joined = joined_rows(row, further, at)
                short = least_form(*joined)
                if (joined[1] > 0) if short is None else plain_sum(system, short) is None:
                    found.append((one, other, at))
    return tuple(found)


class PutIn(unittest.TestCase):

    def test_examples(self):
        self.assertEqual(show_system(put_in(LINE, "y", (1, 2))), "-2 z >= 1\n2 x >= 1")

    def test_errors_in_their_order(self):
        lone = read_system("x >= 1")
        for value in wrong_names(LINE):
            self.assertEqual(raised(put_in, LINE, value, None), ("Refused", "name"))
        for value in odd_values() + no_fractions():
            self.assertEqual(raised(put_in, LINE, "y", value), ("InvalidNumber", "value"))
            self.assertEqual(raised(put_in, lone, "x", value), ("InvalidNumber", "value"))
        self.assertEqual(raised(put_in, lone, "x", (0, 1)), ("Refused", "names"))
        self.assertEqual(raised(put_in, lone, "y", (0, 1)), ("Refused", "name"))
        self.assertEqual(raised(put_in, read_system("x >= 1", ("y",)), "x", (0, 1)), ("Refused", "zero"))
        self.assertEqual(raised(put_in, value=(99, 100), name="x", system=read_system("x >= 1\ny >= 0")),
                         ("Refused", "zero"))

    def test_rows_without_coefficients_are_left_out(self):
        self.assertEqual(put_in(read_system("x >= 1\ny >= 0"), "x", (1, 1)), read_system("y >= 0"))
        self.assertEqual(put_in(System(("x", "y"), ()), "y", (7, 3)), System(("x",), ()))
        # Rows that follow from others go as well.
        self.assertEqual(put_in(read_system("x + y >= 0\n2 x + y >= 1"), "y", (5, 1)), read_system("x >= -2"))

    def test_solutions(self):
        dice = Dice(311)
        kept = 0
        for _ in range(150):
            size = dice.between(2, 4)
            system = any_system(dice, size, dice.between(0, 6), dice.pick((2, 10 ** 6)), 4)
            at, value = dice.below(size), any_fraction(dice, dice.pick((3, 10 ** 9)))
            error = raised(put_in, system, NAMES[at], value)
            points = points_on_grid(size - 1, GRID[:3])
            whole = [all(is_kept(row, p[:at] + (value,) + p[at:]) for row in system.rows) for p in points]
            if error is not None:
                self.assertEqual(error, ("Refused", "zero"))
                self.assertFalse(any(whole))
                continue
            other = put_in(system, NAMES[at], value)
            self.assertEqual(other.names, without(system.names, at))
            kept += sum(whole)
            self.assertEqual([all(is_kept(row, p) for row in other.rows) for p in points], whole)
            rows = tuple((without(row[0], at), row[1] - row[0][at] * frac(value)) for row in system.rows)
            whole = tuple((tuple(n * value[1] for n in row[0]), int(row[1] * value[1])) for row in rows)
            self.assertEqual(other, system_of(other.names, whole))
        self.assertGreater(kept, 100)

    def test_single_systems_stay_single(self):
        dice = Dice(312)
        checked = 0
        while checked < 60:
            system = any_system(dice, dice.between(2, 4), dice.between(2, 5), 1, 2)
            if is_single(system) and dice.chance(1, 3):
                checked += 1
                for name in system.names:
                    value = any_fraction(dice, 3)
                    if raised(put_in, system, name, value) is None:
                        self.assertTrue(is_single(put_in(system, name, value)))


class Doubled(unittest.TestCase):

    def test_what_it_returns(self):
        system = doubled(LINE, "y", "a")
        self.assertEqual((system.names, show_system(system)), (("a", "x", "y", "z"), "-a + x - y >= 0\na + y - z >= 1"))
        self.assertEqual(doubled(System(("b",), ()), "b", "a"), System(("a", "b"), ()))
        self.assertEqual(doubled(other="zz", name="x", system=read_system("-2 x >= 3")),
                         read_system("-2 x - 2 zz >= 3"))

    def test_errors_in_their_order(self):
        six = System(NAMES, ())
        for value in wrong_names(LINE):
            self.assertEqual(raised(doubled, LINE, value, None), ("Refused", "name"))
            self.assertEqual(raised(doubled, six, value, "a"), ("Refused", "name"))
        for value in odd_values() + ["z", "y", "x", "A", "", "abcdef", "a1", ("a",), 5]:
            if value != "xyz":
                self.assertEqual(raised(doubled, LINE, "x", value), ("Refused", "other"), value)
        self.assertEqual(raised(doubled, six, "a", "g"), ("Refused", "other"))
        self.assertIsNone(raised(doubled, System(NAMES[:5], ()), "a", "f"))

    def test_solutions_and_singles(self):
        dice = Dice(313)
        seen = {True: 0, False: 0}
        for _ in range(120):
            size = dice.between(1, 3)
            system = any_system(dice, size, dice.between(0, 5), 2, 3)
            at = dice.below(size)
            name = dice.pick(("aa", "bb", "z", "a" * 5))
            system = System(tuple("bcd"[:size]), system.rows)
            other = doubled(system, system.names[at], name)
            self.assertEqual(other.names, tuple(sorted(system.names + (name,))))
            place, own = other.names.index(name), other.names.index(system.names[at])
            for point in points_on_grid(size + 1, GRID[:3]):
                joined = list(point)
                joined[own] = (frac(point[own]) + frac(point[place]))
                joined[own] = (joined[own].numerator, joined[own].denominator)
                self.assertEqual(all(is_kept(row, point) for row in other.rows),
                                 all(is_kept(row, without(tuple(joined), place)) for row in system.rows))
            single = is_single(system)
            seen[single] += 1
            self.assertEqual(is_single(other), single)
        self.assertGreater(min(seen.values()), 20)


class MadeOne(unittest.TestCase):

    def test_examples(self):
        both = made_one(read_system("x - a >= 0\nb - y >= 0"), "x", "y")
        self.assertEqual((show_system(both), lost_at(both, "x"), lost_at(both, "a")),
                         ("-a + x >= 0\nb - x >= 0", ((0, 1, 2),), ()))

    def test_errors_in_their_order(self):
        for value in wrong_names(LINE):
            self.assertEqual(raised(made_one, LINE, value, None), ("Refused", "name"))
            self.assertEqual(raised(lost_at, LINE, value), ("Refused", "name"))
        for value in odd_values() + ["x", "w", "", ("y",), ["y"], 1, b"y"]:
            if value != "y":
                self.assertEqual(raised(made_one, LINE, "x", value), ("Refused", "other"), value)
        clash = read_system("x - y >= 1\nz >= 0")
        self.assertEqual(raised(made_one, clash, "x", "x"), ("Refused", "other"))
        self.assertEqual(raised(made_one, clash, "x", "y"), ("Refused", "zero"))
        self.assertEqual(raised(made_one, other="x", name="y", system=clash), ("Refused", "zero"))
        self.assertEqual(raised(made_one, System(("x",), ()), "x", "x"), ("Refused", "other"))

    def test_the_name_that_stays(self):
        system = read_system("x - 2 y + z >= 1")
        self.assertEqual(made_one(system, "x", "y"), read_system("-x + z >= 1"))
        self.assertEqual(made_one(system, "y", "x"), read_system("-y + z >= 1"))
        self.assertEqual(made_one(system, "z", "y"), read_system("x - z >= 1"))
        # Rows without coefficients and a bound that is not above 0 go, and so do rows that follow.
        self.assertEqual(made_one(read_system("x - y >= 0\nx + y >= 3\nx >= 1"), "y", "x"), read_system("2 y >= 3"))

    def test_solutions(self):
        dice = Dice(314)
        for _ in range(150):
            size = dice.between(2, 4)
            system = any_system(dice, size, dice.between(0, 6), 2, 3)
            at, place = dice.below(size), dice.below(size)
            if at == place:
                continue
            points = points_on_grid(size - 1, GRID[1:4])
            own = at if at < place else at - 1
            whole = [all(is_kept(row, p[:place] + (p[own],) + p[place:]) for row in system.rows) for p in points]
            error = raised(made_one, system, NAMES[at], NAMES[place])
            if error is not None:
                self.assertEqual(error, ("Refused", "zero"))
                self.assertFalse(any(whole))
                continue
            other = made_one(system, NAMES[at], NAMES[place])
            self.assertEqual(other.names, without(system.names, place))
            self.assertEqual([all(is_kept(row, p) for row in other.rows) for p in points], whole)

    def test_single_exactly_if_the_joint_unknown_has_no_lost_triples(self):
        dice = Dice(315)
        seen = {True: 0, False: 0}
        while min(seen.values()) < 25:
            system = any_system(dice, dice.between(2, 4), dice.between(2, 5), 1, 1)
            if is_single(system):
                name, other = dice.pick(system.names), dice.pick(system.names)
                if name != other and raised(made_one, system, name, other) is None:
                    both = made_one(system, name, other)
                    seen[is_single(both)] += 1
                    self.assertEqual(is_single(both), lost_at(both, name) == ())


class LostAt(unittest.TestCase):

    def test_by_the_words(self):
        dice = Dice(316)
        seen = 0
        for _ in range(200):
            size = dice.between(1, 5)
            system = any_system(dice, size, dice.between(0, 7), dice.pick((1, 2, 10 ** 6)), 3)
            found = [lost_at(system, name) for name in system.names]
            self.assertEqual(found, [lost(system, at) for at in range(size)])
            self.assertEqual(isinstance(court(system), Single), not any(found))
            seen += any(found)
        self.assertGreater(seen, 80)

    def test_no_coefficients(self):
        self.assertEqual(lost_at(read_system("x >= 1\nx <= 0"), "x"), ((1, 0, 0),))
        self.assertEqual(lost_at(read_system("x >= 1\nx <= 1"), "x"), ())
        self.assertEqual(lost_at(System(("x", "y"), ()), "y"), ())

    def test_more_than_3000_triples(self):
        rows = [((1,) * 6, number) for number in range(30)] + [((-1,) * 6, -number - 100) for number in range(29)]
        system = System(NAMES, tuple(sorted(rows)))
        self.assertGreater(30 * 29 * 6, MOST_TRIPLES)
        self.assertEqual(lost_at(system, "f"), ())
        rows[0] = ((1,) * 6, 101)
        system = System(NAMES, tuple(sorted(rows)))
        one = system.rows.index(rows[0])
        self.assertEqual(lost_at(system=system, name="d"), ((one, system.rows.index(((-1,) * 6, -100)), 3),))


if __name__ == "__main__":
    unittest.main()
