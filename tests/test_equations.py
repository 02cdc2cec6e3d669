"""Points [87] and [88]: systems of equations."""

import unittest
from itertools import combinations

from rowalone.boxes import free_box
from rowalone.eliminations import eliminated, eliminations
from rowalone.equations import equal_system, is_equal, is_free, least_equations, least_lots
from rowalone.papers import plain_sum, point_or_paper
from rowalone.systems import System, system_of
from rowalone.texts import read_system, show_system
from tests.helpers import (Anything, Dice, NAMES, any_fraction, any_system, changed, frac, odd_values, raised, sum_at)

XYZ = ("x", "y", "z")
EXAMPLE = equal_system(XYZ, (((1, -1, 0), 2), ((0, 1, -1), 1)))
NEEDING = (least_lots, least_equations)


def any_equations(dice, size, many, limit):
    """Equations that some point solves, with coefficients that often are 0."""
    point = [dice.between(-3, 3) for _ in range(size)]
    rows = []
    for _ in range(many):
        numbers = tuple(dice.between(-limit, limit) if dice.chance(1, 2) else 0 for _ in range(size))
        rows.append((numbers, sum(number * value for number, value in zip(numbers, point))))
    return equal_system(NAMES[:size], tuple(rows))


def is_single(system):
    """Whether each eliminated row is a plain sum."""
    for one, other, at in eliminations(system):
        row = eliminated(system.rows[one], system.rows[other], at)
        if row is None:
            if point_or_paper(System(system.names, tuple(sorted((system.rows[one], system.rows[other])))),
                              free_box(system))[0] == "paper":
                return False
        elif plain_sum(system, row) is None:
            return False
    return True


def without(system, row):
    return System(system.names, tuple(other for other in system.rows if other != row))


def trimmed(system):
    for row in system.rows:
        if plain_sum(without(system, row), row) is not None:
            system = without(system, row)
    return system


def closed(system):
    """The least single system by rounds: eliminated rows are added until all are plain sums."""
    system = trimmed(system)
    while True:
        rows = list(system.rows)
        for one, other, at in eliminations(system):
            row = eliminated(system.rows[one], system.rows[other], at)
            if row is not None and plain_sum(system, row) is None:
                rows.append(row)
        if len(rows) == len(system.rows):
            return system
        system = trimmed(system_of(system.names, tuple(rows)))


def all_same(one, other):
    """Whether two systems have the same solutions, by rows of each that points of the other one break."""
    for system, rest in ((one, other), (other, one)):
        for row in rest.rows:
            contrary = (tuple(-1000 * number for number in row[0]), 1 - 1000 * row[1])
            both = system_of(system.names, system.rows + (contrary,))
            if point_or_paper(both, free_box(both))[0] == "point":
                return False
    return True


class Equal(unittest.TestCase):

    def test_is_equal(self):
        self.assertIs(is_equal(EXAMPLE), True)
        self.assertIs(is_equal(System(("x",), ())), True)
        self.assertIs(is_equal(System(("x",), (((1,), 0),))), False)
        self.assertIs(is_equal(System(("x",), (((-1,), 0), ((1,), 0)))), True)
        self.assertIs(is_equal(System(("x",), (((-1,), 1), ((1,), 0)))), False)
        self.assertIs(is_equal(system=System(("x",), (((-2,), 1), ((-1,), 0), ((1,), 0)))), False)
        # Equations that contradict each other are equations, too.
        self.assertIs(is_equal(System(("x",), (((-1,), -1), ((-1,), 0), ((1,), 0), ((1,), 1)))), True)

    def test_against_the_definition(self):
        dice = Dice(81)
        for _ in range(100):
            system = any_system(dice, 2, 5, 1, 1)
            rows = [(tuple(-number for number in row[0]), -row[1]) for row in system.rows]
            self.assertIs(is_equal(system), sorted(rows) == sorted(system.rows))

    def test_equal_system(self):
        self.assertEqual(EXAMPLE.rows, (((-1, 1, 0), -2), ((0, -1, 1), -1), ((0, 1, -1), 1), ((1, -1, 0), 2)))
        self.assertEqual(equal_system(("x", "y"), (((2, 4), 6), ((-1, -2), -3))),
                         System(("x", "y"), (((-1, -2), -3), ((1, 2), 3))))
        self.assertEqual(equal_system(rows=(), names=("x",)), System(("x",), ()))

    def test_its_errors(self):
        self.assertEqual(raised(equal_system, ("x",), (((0,), 1),)), ("Refused", "zero"))
        self.assertEqual(raised(equal_system, ("x",), (((0,), -1),)), ("Refused", "zero"))
        self.assertEqual(equal_system(("x",), (((0,), 0),)), System(("x",), ()))
        rows = tuple(((1, number), 0) for number in range(31))
        self.assertEqual(len(equal_system(("x", "y"), rows[:30]).rows), 60)
        self.assertEqual(raised(equal_system, ("x", "y"), rows), ("Refused", "wide"))
        self.assertEqual(raised(equal_system, ("x", "y"), rows + (((0, 0), -1),)), ("Refused", "zero"))

    def test_equations_unless_they_contradict(self):
        self.assertFalse(is_equal(equal_system(("x",), (((1,), 0), ((1,), 1)))))
        self.assertFalse(is_equal(equal_system(("x",), (((1,), 0), ((-2,), 1)))))
        dice = Dice(82)
        for _ in range(60):
            self.assertTrue(is_equal(any_equations(dice, dice.between(1, 6), dice.between(0, 9), 3)))


class Refusals(unittest.TestCase):

    def test_rows(self):
        for system in (System(("x",), (((1,), 0),)), equal_system(("x",), (((1,), 0), ((1,), 1)))):
            for call in NEEDING:
                self.assertEqual(raised(call, system), ("Refused", "rows"))
            self.assertEqual(raised(is_free, system, (0,)), ("Refused", "rows"))

    def test_none(self):
        for system in (System(("x",), (((-1,), -1), ((-1,), 0), ((1,), 0), ((1,), 1))),
                       equal_system(("x", "y"), (((1, 1), 0), ((1, -1), 0), ((1, 0), 1))),
                       equal_system(("x", "y", "z"), (((1, 1, 0), 0), ((0, 1, 1), 5), ((1, 2, 1), 6)))):
            for call in NEEDING:
                self.assertEqual(raised(call, system), ("Refused", "none"))
            self.assertEqual(raised(is_free, system, ()), ("Refused", "none"))

    def test_lots(self):
        wrong = [[0], (1, 0), (0, 0), (3,), (-1,), (0, 3), (True,), (False,), (0, True), (0.0,), ("x",), (None,),
                 ((0,),), 0, "0", {0}, Anything()]
        for lot in wrong + [value for value in odd_values() if value != ()]:
            self.assertEqual(raised(is_free, EXAMPLE, lot), ("Refused", "lot"), lot)
            # The lot is checked before the system.
            self.assertEqual(raised(is_free, System(XYZ, (((1, 0, 0), 0),)), lot), ("Refused", "lot"), lot)

    def test_rows_come_before_none(self):
        system = System(("x",), (((-1,), 0), ((-1,), 1), ((1,), 0)))
        for call in NEEDING:
            self.assertEqual(raised(call, system), ("Refused", "rows"))


class Lots(unittest.TestCase):

    def test_examples(self):
        self.assertEqual(least_lots(EXAMPLE), ((0, 1), (0, 2), (1, 2)))
        self.assertEqual(show_system(least_equations(EXAMPLE)).split("\n")[0], "-x + z >= -3")

    def test_small_systems(self):
        self.assertEqual(least_lots(System(NAMES, ())), ())
        self.assertEqual(least_equations(System(NAMES, ())), System(NAMES, ()))
        self.assertEqual(least_lots(read_system("x = 1")), ((0,),))
        self.assertEqual(least_lots(read_system("x + y = 1\nx - y = 1")), ((0,), (1,)))
        self.assertEqual(least_equations(read_system("x + y = 1\nx - y = 0")), read_system("2 x = 1\n2 y = 1"))
        self.assertEqual(least_lots(read_system("a + b + c + d + e + f = 1")), ((0, 1, 2, 3, 4, 5),))

    def test_thirty_equations(self):
        rows = tuple(((1, number), number) for number in range(30))
        system = equal_system(("x", "y"), rows)
        self.assertEqual(len(system.rows), 60)
        self.assertEqual(least_lots(system), ((0,), (1,)))
        self.assertEqual(least_equations(system=system), read_system("x = 0\ny = 1"))

    def test_twenty_lots(self):
        rows = tuple((tuple(base ** power for base in range(1, 7)), 1) for power in range(3))
        system = equal_system(NAMES, rows)
        self.assertEqual(least_lots(system), tuple(combinations(range(6), 4)))
        rows = tuple((tuple(base ** power for base in range(1, 7)), 1) for power in range(4))
        system = equal_system(NAMES, rows)
        self.assertEqual(least_lots(system), tuple(combinations(range(6), 3)))
        self.assertEqual(len(least_equations(system).rows), 40)

    def test_great_numbers(self):
        system = equal_system(XYZ, (((10 ** 6, 10 ** 6 - 1, 7), 10 ** 6), ((3, -10 ** 6, 10 ** 6 - 3), 1 - 10 ** 6)))
        self.assertEqual(least_lots(system), ((0, 1), (0, 2), (1, 2)))
        self.assertTrue(all_same(system, least_equations(system)))

    def test_settled_sums_of_least_lots(self):
        dice = Dice(83)
        for _ in range(120):
            size = dice.between(1, 6)
            system = any_equations(dice, size, dice.between(0, 5), 2)
            self.check_lots(system, least_lots(system))
            self.check_equations(system, least_lots(system), least_equations(system))

    def check_lots(self, system, lots):
        self.assertEqual(lots, tuple(sorted(set(lots))))
        for one in lots:
            for other in lots:
                self.assertFalse(one != other and set(one) <= set(other))
                if one != other:
                    for common in set(one) & set(other):
                        for at in set(one) ^ set(other):
                            self.assertTrue(any(at in lot and common not in lot and set(lot) <= set(one) | set(other)
                                                for lot in lots))

    def check_equations(self, system, lots, result):
        supports = sorted(tuple(at for at, number in enumerate(row[0]) if number) for row in result.rows)
        self.assertEqual(supports, sorted(lots + lots))
        self.assertTrue(is_equal(result))
        word, point = point_or_paper(system, free_box(system))
        self.assertEqual(word, "point")
        for row in result.rows:
            self.assertEqual(sum_at(row, point), row[1])
        self.assertTrue(all_same(system, result))

    def test_the_least_single_system(self):
        dice = Dice(84)
        for _ in range(25):
            system = any_equations(dice, dice.between(1, 4), dice.between(0, 3), 2)
            result = least_equations(system)
            self.assertTrue(is_single(result))
            self.assertEqual(trimmed(result), result)
            self.assertEqual(closed(system), result)

    def test_same_solutions_make_the_same(self):
        dice = Dice(85)
        for _ in range(40):
            size = dice.between(2, 6)
            system = any_equations(dice, size, dice.between(1, 3), 2)
            rows = [row for row in system.rows if row[0] > tuple(-number for number in row[0])]
            mixed = [(tuple(2 * a + b for a, b in zip(one[0], other[0])), 2 * one[1] + other[1])
                     for one, other in zip(rows, rows[1:] + rows[:1])]
            other = equal_system(system.names, tuple(rows + mixed))
            self.assertEqual(least_equations(other), least_equations(system))
            self.assertEqual(least_lots(other), least_lots(system))


class Free(unittest.TestCase):

    def test_small_lots(self):
        self.assertIs(is_free(EXAMPLE, ()), True)
        self.assertIs(is_free(EXAMPLE, (1,)), True)
        self.assertIs(is_free(EXAMPLE, (0, 1)), False)
        self.assertIs(is_free(lot=(0, 1, 2), system=EXAMPLE), False)
        self.assertIs(is_free(System(("x",), ()), (0,)), True)

    def test_exactly_if_no_least_lot_lies_within(self):
        dice = Dice(86)
        for _ in range(80):
            size = dice.between(1, 5)
            system = any_equations(dice, size, dice.between(0, 4), 2)
            lots = least_lots(system)
            free = []
            for many in range(size + 1):
                for lot in combinations(range(size), many):
                    expected = not any(set(one) <= set(lot) for one in lots)
                    self.assertIs(is_free(system, lot), expected)
                    free += [lot] if expected else []
            greatest = [lot for lot in free if not any(set(lot) < set(other) for other in free)]
            self.assertEqual(len({len(lot) for lot in greatest}), 1)
            self.check_choices(dice, system, free, size)

    def check_choices(self, dice, system, free, size):
        """Some solution has any fractions for a free lot; for another lot some fractions have none."""
        for many in range(size + 1):
            for lot in combinations(range(size), many):
                words = []
                for _ in range(3):
                    box = free_box(system)
                    for at in lot:
                        value = any_fraction(dice, 50)
                        box = changed(box, at, (value, value))
                    words.append(point_or_paper(system, box)[0])
                if lot in free:
                    self.assertEqual(words, ["point"] * 3)
                else:
                    self.assertIn("paper", words)

    def test_a_settled_sum_has_one_value(self):
        word, point = point_or_paper(EXAMPLE, free_box(EXAMPLE))
        self.assertEqual((word, frac(point[0]) - frac(point[2])), ("point", 3))


if __name__ == "__main__":
    unittest.main()
