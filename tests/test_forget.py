"""Points [45] to [48]: choices, and names left out."""

import unittest
from itertools import combinations, permutations

from rowalone.bars import barring
from rowalone.boxes import free_box
from rowalone.closing import are_alike, least_single
from rowalone.court import Gap, court, is_single
from rowalone.forget import carried_on, choice_box, forgotten, struck, stuck_choice
from rowalone.papers import check_paper, point_or_paper
from rowalone.systems import System
from rowalone.texts import read_system, show_system
from tests.helpers import (Dice, NAMES, any_fraction, any_system, changed, is_kept, loose_system, no_fractions, odd_values,
                           raised)
from tests.test_wholes import triples_system

ZERO = (0, 1)
LINE = read_system("x - y >= 0\ny - z >= 1")
BARRED = read_system("x + y >= 1\nx + y <= 0\nx - z >= 0")


def wrong_choices(size):
    free = (None,) * size
    found = [(value, -1) for value in odd_values() if not isinstance(value, tuple) or len(value) != size]
    found += [(free[1:], -1), (free + free[:1], -1), (list(free), -1)]
    for at in range(size):
        found += [(changed(free, at, item), at) for item in odd_values() + no_fractions() if item is not None]
    found.append((changed(changed(free, size - 1, 0), 0, 0), 0))
    return found


def wrong_names():
    """Values that are no lot of some of x, y and z, but not of all."""
    return odd_values() + [(), ("x", "y", "z"), ("y", "x"), ("x", "x"), ("q",), ("x", "q"), ["x"], {"x": 1}, ("",), (0,),
                           ("x", None), ("x", 0), "x", ("x", ["y"]), ("xy",), (("x",),), ("x", "y", "z", "zz")]


def has_solution(system):
    return point_or_paper(system, free_box(system))[0] == "point"


class Choices(unittest.TestCase):

    def test_examples(self):
        choice = stuck_choice(LINE)
        self.assertEqual((choice[1], carried_on(LINE, choice)[0], carried_on(LINE, (None, (3, 1), (2, 1)))[1][1:]),
                         (None, "paper", ((3, 1), (2, 1))))
        self.assertEqual((show_system(struck(LINE, ("x",))), show_system(forgotten(LINE, ("y",)))),
                         ("y - z >= 1", "x - z >= 1"))

    def test_values_that_are_no_choices(self):
        for value, at in wrong_choices(3):
            self.assertEqual(raised(choice_box, LINE, value), ("InvalidPoint", at), value)
            self.assertEqual(raised(carried_on, LINE, value), ("InvalidPoint", at), value)

    def test_boxes(self):
        self.assertEqual(choice_box(LINE, (None, (1, 2), None)), ((None, None), ((1, 2), (1, 2)), (None, None)))
        self.assertEqual(choice_box(choice=(None,) * 3, system=LINE), free_box(LINE))
        self.assertEqual(choice_box(LINE, (ZERO,) * 3), ((ZERO, ZERO),) * 3)

    def test_by_the_words(self):
        dice = Dice(611)
        seen = {"point": 0, "paper": 0}
        for _ in range(300):
            system = any_system(dice, dice.between(1, 4), dice.between(0, 5), 2, 2)
            choice = tuple(any_fraction(dice, 2) if dice.chance(1, 2) else None for _ in system.names)
            box = choice_box(system, choice)
            for number, row in enumerate(system.rows):
                written = all(value is not None or one == 0 for value, one in zip(choice, row[0]))
                point = tuple(value or ZERO for value in choice)
                self.assertEqual(number in barring(system, box), written and not is_kept(row, point))
            word, found = carried_on(choice=choice, system=system)
            seen[word] += 1
            if word == "point":
                self.assertTrue(all(is_kept(row, found) for row in system.rows))
                self.assertTrue(all(one is None or one == other for one, other in zip(choice, found)))
            else:
                self.assertIsNone(check_paper(system, box, found))
        self.assertGreater(min(seen.values()), 60)


class Stuck(unittest.TestCase):

    def check(self, system, choice):
        self.assertEqual(len(choice), len(system.names))
        self.assertEqual(barring(system, choice_box(system, choice)), ())
        self.assertEqual(carried_on(system, choice)[0], "paper")

    def test_by_the_words(self):
        dice = Dice(612)
        seen = {True: 0, False: 0}
        for _ in range(400):
            system = any_system(dice, dice.between(1, 4), dice.between(0, 6), dice.pick((1, 2)), 2)
            single = not isinstance(court(system), Gap)
            seen[single] += 1
            choice = stuck_choice(system=system)
            self.assertEqual(choice is None, single)
            if choice is not None:
                self.check(system, choice)
        self.assertGreater(min(seen.values()), 60)

    def test_closed_systems(self):
        dice = Dice(613)
        checked = 0
        while checked < 40:
            system = any_system(dice, dice.between(2, 4), dice.between(2, 4), 1, 2)
            if has_solution(system):
                checked += 1
                self.assertIsNone(stuck_choice(least_single(system)))

    def test_systems_without_a_solution(self):
        # Rows that contradict each other directly, and only together with others.
        self.assertEqual(stuck_choice(read_system("x >= 1\nx <= 0", ("y",))), (None, None))
        for system in (BARRED, read_system("x - y >= 1\ny - z >= 0\nz - x >= 0"),
                       read_system("x >= 2\ny >= 2\nx + y <= 3"), read_system("x + y >= 1\nx - y >= 1\nx <= 0")):
            self.check(system, stuck_choice(system))

    def test_edges(self):
        for system in (System(("x",), ()), System(NAMES, ()), read_system("x >= 1"), read_system("x + y = 3")):
            self.assertIsNone(stuck_choice(system))

    def test_many_triples(self):
        for more in (0, 1):
            system = triples_system(more)
            self.check(system, stuck_choice(system))


class LeftOut(unittest.TestCase):

    def test_values_that_are_no_names(self):
        for value in wrong_names():
            for system in (LINE, BARRED):
                self.assertEqual(raised(struck, system, value), ("Refused", "names"), value)
                self.assertEqual(raised(forgotten, system, value), ("Refused", "names"), value)
        one = read_system("x >= 0")
        for call in (struck, forgotten):
            self.assertEqual(raised(call, one, ("x",)), ("Refused", "names"))
            self.assertEqual(raised(call, one, ()), ("Refused", "names"))

    def test_errors_in_their_order(self):
        self.assertEqual(raised(forgotten, BARRED, ("x",)), ("Refused", "none"))
        dice = Dice(614)
        wide = loose_system(dice, 4, 60, 10 ** 3, 10 ** 4)
        self.assertEqual(raised(forgotten, wide, ("a",)), ("Refused", "wide"))
        self.assertEqual(raised(forgotten, wide, ("q",)), ("Refused", "names"))
        self.assertIsNone(raised(struck, wide, ("a",)))
        self.assertIsNone(raised(struck, BARRED, ("x",)))

    def test_struck(self):
        system = read_system("x - y >= 0\ny >= 2\nz >= 1\n2 y + z >= 3\nz <= 7")
        self.assertEqual(show_system(struck(system, ("x",))), "-z >= -7\nz >= 1\ny >= 2\n2 y + z >= 3")
        self.assertEqual(show_system(struck(names=("x", "z"), system=system)), "y >= 2")
        self.assertEqual(struck(system, ("y",)), System(("x", "z"), (((0, -1), -7), ((0, 1), 1))))
        self.assertEqual(struck(LINE, ("x", "y")), System(("z",), ()))

    def test_single_systems(self):
        dice = Dice(615)
        checked = stuck = 0
        while checked < 60:
            system = any_system(dice, dice.between(2, 4), dice.between(1, 5), 1, 2)
            if not has_solution(system):
                continue
            least = least_single(system)
            for many in range(1, len(system.names)):
                for names in combinations(system.names, many):
                    checked += 1
                    left = struck(least, names)
                    self.assertEqual(left, forgotten(system, names))
                    self.assertEqual(left, forgotten(names=names, system=least))
                    self.assertTrue(is_single(left))
                    self.assertEqual(least_single(left), left)
                    stuck += not are_alike(struck(system, names), left)
                    self.check_points(dice, system, names, left)
        self.assertGreater(stuck, 5)

    def check_points(self, dice, system, names, left):
        """The solutions that are left are just the points that can be carried on."""
        for _ in range(4):
            point = tuple(any_fraction(dice, 2) for _ in left.names)
            values = {name: value for name, value in zip(left.names, point)}
            choice = tuple(values.get(name) for name in system.names)
            kept = all(is_kept(row, point) for row in left.rows)
            self.assertEqual(carried_on(system, choice)[0] == "point", kept)

    def test_one_by_one_and_together(self):
        dice = Dice(616)
        checked = 0
        while checked < 25:
            system = any_system(dice, 4, dice.between(2, 5), 1, 2)
            if has_solution(system):
                checked += 1
                names = tuple(name for name in system.names if dice.chance(1, 2))[:3] or ("b",)
                whole = forgotten(system, names)
                for order in permutations(names):
                    left = system
                    for name in order:
                        left = forgotten(left, (name,))
                    self.assertEqual(left, whole)

    def test_six_names(self):
        chain = System(NAMES, tuple(sorted(((0,) * at + (1, -1) + (0,) * (4 - at), 0) for at in range(5))))
        self.assertEqual(show_system(forgotten(chain, ("b", "c", "d", "e"))), "a - f >= 0")
        self.assertEqual(forgotten(chain, NAMES[1:]), System(("a",), ()))


if __name__ == "__main__":
    unittest.main()
