"""Points [84] to [86]: systems side by side, with one name in common, and sweeps."""

import unittest

from rowalone.boxes import free_box
from rowalone.court import is_single
from rowalone.papers import is_sum_of, point_or_paper
from rowalone.patterns import outer_rows
from rowalone.ranges import exact_ranges
from rowalone.systems import System, system_of
from rowalone.texts import read_system, show_system
from rowalone.together import glued, name_parts, side_by_side, swept
from tests.helpers import Dice, any_box, any_row, any_system, frac, raised, top_of, wide_rows, wrong_boxes

ZERO = (0, 1)
FREE = (None, None)


def over(names, systems):
    """The rows of systems with the coefficient 0 for further names."""
    rows = []
    for system in systems:
        for numbers, bound in system.rows:
            given = dict(zip(system.names, numbers))
            rows.append((tuple(given.get(name, 0) for name in names), bound))
    return tuple(rows)


def names_of(systems):
    return tuple(sorted({name for system in systems for name in system.names}))


def any_over(dice, names, many, limit=1, bound=2):
    """A system of rows over some names."""
    names = tuple(sorted(names))
    return system_of(names, tuple(any_row(dice, len(names), limit, bound) for _ in range(many)))


def any_single(dice, names, most=4):
    while True:
        system = any_over(dice, names, dice.between(0, most))
        if is_single(system):
            return system


def any_tree(dice, single):
    """Systems of which each but the first has one name in common with all earlier ones."""
    fresh = list("abcdef")
    systems = []
    for place in range(dice.between(1, 5)):
        names = [dice.pick(names_of(systems[-1:]))] if systems else [fresh.pop(dice.below(len(fresh)))]
        for _ in range(dice.pick((0, 1, 1, 2)) if place else 1):
            if fresh:
                names.append(fresh.pop(dice.below(len(fresh))))
        systems.append(any_single(dice, names) if single else any_over(dice, names, dice.between(0, 4), 2))
    return tuple(systems)


class SideBySide(unittest.TestCase):

    def test_ordinary_inputs(self):
        one, other = read_system("x - z >= 1"), read_system("y + a >= 2\na >= 0")
        self.assertEqual(side_by_side(one, other), read_system("x - z >= 1\ny + a >= 2\na >= 0"))
        self.assertEqual(side_by_side(other=one, one=other), side_by_side(one, other))
        self.assertEqual(side_by_side(System(("b",), ()), System(("a",), ())), System(("a", "b"), ()))

    def test_errors_in_their_order(self):
        one = read_system("x >= 1\ny >= 0")
        for names in (("x",), ("a", "y"), ("a", "b", "x", "y")):
            self.assertEqual(raised(side_by_side, one, System(names, ())), ("Refused", "names"))
            self.assertEqual(raised(side_by_side, System(names, ()), one), ("Refused", "names"))
        self.assertEqual(raised(side_by_side, one, one), ("Refused", "names"))
        self.assertIsNone(raised(side_by_side, one, System(tuple("abcd"), ())))
        self.assertEqual(raised(side_by_side, one, System(tuple("abcde"), ())), ("Refused", "names"))
        wide = System(("a", "b"), wide_rows(60))
        self.assertEqual(raised(side_by_side, one, wide), ("Refused", "wide"))
        self.assertEqual(raised(side_by_side, wide, System(("x",), (((1,), 0),))), ("Refused", "wide"))
        self.assertEqual(raised(side_by_side, wide, wide), ("Refused", "names"))
        five = System(tuple("abcde"), tuple((row[0] + (0, 0, 0), 0) for row in wide.rows))
        self.assertEqual(raised(side_by_side, five, System(("x", "y"), wide.rows)), ("Refused", "names"))
        self.assertEqual(len(side_by_side(System(("a", "b"), wide_rows(58)), one).rows), 60)
        self.assertEqual(len(side_by_side(wide, System(("x",), ())).rows), 60)

    def test_rows_that_follow_are_kept(self):
        one = System(("x",), (((1,), 0), ((1,), 1)))
        self.assertEqual(side_by_side(one, System(("y",), ())).rows, (((1, 0), 0), ((1, 0), 1)))

    def test_single_exactly_if_both_are(self):
        dice = Dice(431)
        seen = {True: 0, False: 0}
        for _ in range(200):
            one, other = any_over(dice, "bd", dice.between(0, 3)), any_over(dice, "ac", dice.between(0, 3))
            both = side_by_side(one, other)
            single = is_single(one) and is_single(other)
            seen[single] += 1
            self.assertEqual(is_single(both), single)
            self.assertEqual(both.rows, tuple(sorted(over(tuple("abcd"), (one, other)))))
        self.assertGreater(min(seen.values()), 30)

    def test_outer_rows(self):
        dice = Dice(432)
        for _ in range(80):
            systems = any_over(dice, "bd", dice.between(0, 3)), any_over(dice, "ac", dice.between(0, 3))
            if any(point_or_paper(system, free_box(system))[0] == "paper" for system in systems):
                continue
            signs = tuple(dice.pick((-1, 0, 1)) for _ in range(4))
            rows = outer_rows(systems[0], (signs[1], signs[3])), outer_rows(systems[1], (signs[0], signs[2]))
            rows = [((0, b, 0, d), bound) for (b, d), bound in rows[0]] + [((a, 0, c, 0), n) for (a, c), n in rows[1]]
            self.assertEqual(outer_rows(side_by_side(*systems), signs), tuple(sorted(rows)))


class NameParts(unittest.TestCase):

    def test_examples(self):
        system = read_system("x >= 0\ny >= 0\nx + y >= 0", ("z",))
        self.assertEqual(name_parts(system), (("x", "y"), ("z",)))
        self.assertEqual(name_parts(read_system("x >= 0\ny >= 0", ("z",))), (("x",), ("y",), ("z",)))

    def test_ordinary_inputs(self):
        self.assertEqual(name_parts(System(("x",), ())), (("x",),))
        self.assertEqual(name_parts(system=System(tuple("abcdef"), ())), tuple((name,) for name in "abcdef"))
        self.assertEqual(name_parts(read_system("a + d >= 0\nb + c >= 0\nc - e >= 0\nf >= 1")),
                         (("a", "d"), ("b", "c", "e"), ("f",)))
        self.assertEqual(name_parts(read_system("a + b >= 0\nc + d >= 0\ne + f >= 0\nb + c >= 0\nd + e >= 0")),
                         (tuple("abcdef"),))

    def test_by_the_words(self):
        dice = Dice(433)
        for _ in range(200):
            names = tuple("abcdef"[:dice.between(1, 6)])
            rows = [row for row in (any_row(dice, len(names), 2, 2) for _ in range(dice.between(0, 5)))
                    if sum(number != 0 for number in row[0]) < 4]
            system = system_of(names, tuple(rows))
            near = {name: {name} for name in names}
            for _ in names:
                for numbers, _ in system.rows:
                    lot = set().union(*(near[name] for name, number in zip(names, numbers) if number))
                    for name in lot:
                        near[name] = near[name] | lot
            self.assertEqual(name_parts(system), tuple(sorted({tuple(sorted(lot)) for lot in near.values()})))


class Glued(unittest.TestCase):

    def test_examples(self):
        self.assertEqual(show_system(glued(read_system("a + b >= 2"), read_system("c - b >= 1\nc >= 0"))),
                         "-b + c >= 1\nc >= 0\na + c >= 3\na + b >= 2")

    def test_errors_in_their_order(self):
        one = read_system("x + y >= 1")
        for names in (("a",), ("a", "b"), ("x", "y"), ("a", "x", "y"), tuple("abcde"), tuple("abcdx") + ("y",)):
            self.assertEqual(raised(glued, one, System(tuple(sorted(names)), ())), ("Refused", "names"))
            self.assertEqual(raised(glued, System(tuple(sorted(names)), ()), one), ("Refused", "names"))
        self.assertIsNone(raised(glued, one, System(tuple("abcd") + ("x",), ())))
        six = System(("a", "b", "c", "d", "e", "x"), ())
        self.assertEqual(raised(glued, one, six), ("Refused", "names"))
        # The result without coefficients comes before the width.
        clash = read_system("x <= 0"), System(("x", "y"), wide_rows(59) + (((2, 0), 1),))
        self.assertEqual(raised(glued, *clash), ("Refused", "none"))
        wide = System(("x", "y"), wide_rows(60))
        self.assertEqual(raised(glued, wide, read_system("z - x >= 0")), ("Refused", "wide"))
        self.assertEqual(raised(glued, other=wide, one=read_system("z >= 1", ("x",))), ("Refused", "wide"))
        self.assertIsNone(raised(glued, wide, System(("x", "z"), ())))

    def test_results_without_coefficients(self):
        self.assertEqual(raised(glued, read_system("x >= 1"), read_system("x <= 0\ny >= 0")), ("Refused", "none"))
        self.assertEqual(glued(read_system("x >= 1"), read_system("x <= 1\ny >= 0")), read_system("x = 1\ny >= 0"))
        # A clash within one of the systems is not looked for.
        clash = System(("x", "y"), (((-1, 0), 1), ((1, 0), 1)))
        self.assertEqual(glued(clash, System(("y", "z"), ())).rows, (((-1, 0, 0), 1), ((1, 0, 0), 1)))

    def test_by_the_words(self):
        dice = Dice(434)
        seen = [0, 0, 0]
        for _ in range(300):
            one, other = any_over(dice, "ac", dice.between(0, 5), 2), any_over(dice, "bcd", dice.between(0, 5), 2)
            names = tuple("abcd")
            rows = list(over(names, (one, other)))
            clash = False
            for first in over(names, (one,)):
                for second in over(names, (other,)):
                    p, q = first[0][2], second[0][2]
                    if p * q < 0:
                        numbers = tuple(abs(q) * m + abs(p) * n for m, n in zip(first[0], second[0]))
                        total = abs(q) * first[1] + abs(p) * second[1]
                        clash = clash or (not any(numbers) and total > 0)
                        rows.append((numbers, total))
            if clash:
                seen[0] += 1
                self.assertEqual(raised(glued, one, other), ("Refused", "none"))
            else:
                seen[1 + (len(rows) > len(one.rows + other.rows))] += 1
                self.assertEqual(glued(one, other), system_of(names, tuple(rows)))
                self.assertEqual(glued(other, one), glued(one, other))
        self.assertGreater(min(seen), 5)

    def test_single_systems(self):
        dice = Dice(435)
        seen = {True: 0, False: 0}
        for _ in range(250):
            one, other = any_single(dice, "ac"), any_single(dice, "bcd")
            names = tuple("abcd")
            both = System(names, tuple(sorted(set(over(names, (one, other))))))
            empty = point_or_paper(both, free_box(both))[0] == "paper"
            seen[empty] += 1
            self.assertEqual(raised(glued, one, other), ("Refused", "none") if empty else None)
            if not empty:
                system = glued(one, other)
                self.assertTrue(is_single(system))
                signs = tuple(dice.pick((-1, 1)) for _ in names)
                trimmed = [row for row in system.rows if not is_sum_of([o for o in system.rows if o != row], row)]
                found = tuple(row for row in trimmed if all(n * s >= 0 for n, s in zip(row[0], signs)))
                self.assertEqual(outer_rows(both, signs), found)
        self.assertGreater(min(seen.values()), 5)


class Swept(unittest.TestCase):

    def look(self, system, names, ends):
        """The told ends of a system, None without a point; by the words."""
        box = tuple(ends[names.index(name)] for name in system.names)
        for row in system.rows:
            top = top_of(row, box)
            if top is not None and top < row[1]:
                return None
        found = []
        for at, (low, high) in enumerate(box):
            lows, highs = [frac(end) for end in (low,) if end], [frac(end) for end in (high,) if end]
            for numbers, bound in system.rows:
                if numbers[at] != 0:
                    rest = top_of((numbers[:at] + (0,) + numbers[at + 1:], 0), box)
                    if rest is not None:
                        (lows if numbers[at] > 0 else highs).append((bound - rest) / numbers[at])
            low, high = max(lows, default=None), min(highs, default=None)
            if low is not None and high is not None and low > high:
                return None
            found.append(tuple(None if end is None else (end.numerator, end.denominator) for end in (low, high)))
        return dict(zip(system.names, found))

    def by_the_words(self, systems, box):
        names = names_of(systems)
        ends = list(box)
        for place in range(len(systems) - 1, 0, -1):
            told = self.look(systems[place], names, ends)
            if told is None:
                return None
            common = [name for name in systems[place].names if name in names_of(systems[:place])]
            ends[names.index(common[0])] = told[common[0]]
        for system in systems:
            told = self.look(system, names, ends)
            if told is None:
                return None
            for name in system.names:
                ends[names.index(name)] = told[name]
        return tuple(ends)

    def test_examples(self):
        self.assertEqual(swept((read_system("x - y >= 0"), read_system("y - z >= 1")),
                               ((ZERO, (9, 1)), FREE, ((3, 1), None))),
                         (((4, 1), (9, 1)), ((4, 1), (9, 1)), ((3, 1), (8, 1))))

    def test_errors_in_their_order(self):
        one, other = read_system("x - y >= 0"), read_system("y - z >= 1")
        for systems in ((one, read_system("a >= 0")), (one, one), (one, other, other),
                        (one, other, read_system("x + z = 0")), (one, read_system("a >= 0"), other),
                        (one, System(tuple("abcdef"), ())), (System(tuple("abcdex"), ()), one),
                        (one, System(("y",), ()), System(("a",), ()))):
            self.assertEqual(raised(swept, systems, None), ("Refused", "names"))
        for value, at in wrong_boxes(3):
            self.assertEqual(raised(swept, (one, other), value), ("InvalidBox", at), value)
        self.assertEqual(raised(swept, box=(FREE,), systems=(one,)), ("InvalidBox", -1))
        six = (System(tuple("abc"), ()), System(("c", "d", "e", "x"), ()))
        self.assertEqual(swept(six, (FREE,) * 6), (FREE,) * 6)
        self.assertEqual(raised(swept, six + (one,), (FREE,) * 6), ("Refused", "names"))
        # A name in common with earlier ones may be one of any of them, and be the only name.
        self.assertEqual(swept((one, other, read_system("x >= 5"), read_system("z >= 1")), (FREE,) * 3),
                         (((5, 1), None), ((2, 1), None), ((1, 1), None)))

    def test_one_system(self):
        system = read_system("x + y >= 1\ny - x >= 1")
        self.assertEqual(swept((system,), (FREE, (None, (3, 1)))), (((-2, 1), (2, 1)), (None, (3, 1))))
        self.assertIsNone(swept((system,), (FREE, (None, (1, 2)))))
        self.assertIsNone(swept((system,), ((ZERO, ZERO), (None, (1, 2)))))

    def test_by_the_words(self):
        dice = Dice(436)
        seen = {True: 0, False: 0}
        for _ in range(500):
            systems = any_tree(dice, False)
            box = any_box(dice, len(names_of(systems)), 4, dice.between(2, 9))
            found = swept(systems, box)
            seen[found is None] += 1
            self.assertEqual(found, self.by_the_words(systems, box))
            names = names_of(systems)
            both = system_of(names, over(names, systems))
            word, point = point_or_paper(both, box)
            if found is None:
                self.assertEqual(word, "paper")
            elif word == "point":
                for value, (low, high) in zip(point, found):
                    self.assertTrue(low is None or frac(low) <= frac(value))
                    self.assertTrue(high is None or frac(value) <= frac(high))
        self.assertGreater(min(seen.values()), 60)

    def test_single_systems(self):
        dice = Dice(437)
        seen = {True: 0, False: 0}
        for _ in range(500):
            systems = any_tree(dice, True)
            names = names_of(systems)
            box = any_box(dice, len(names), 4, dice.between(2, 9))
            rows = over(names, systems)
            both = system_of(names, rows)
            found = swept(systems, box)
            empty = point_or_paper(both, box)[0] == "paper"
            seen[empty] += 1
            self.assertEqual(found is None, empty)
            if not empty:
                self.assertEqual(found, exact_ranges(both, box))
        self.assertGreater(min(seen.values()), 60)

    def test_the_last_system_is_looked_at_first(self):
        chain = tuple(read_system(text) for text in ("w - x >= 0", "x - y >= 0", "y - z >= 0"))
        self.assertEqual(swept(chain, (FREE, FREE, FREE, (ZERO, None))), ((ZERO, None),) * 4)
        self.assertEqual(swept(chain, ((None, ZERO), FREE, FREE, FREE)), ((None, ZERO),) * 4)
        self.assertIsNone(swept(chain, ((None, ZERO), FREE, FREE, ((1, 9), None))))
        # On the way back only the names in common are told: the low of v stays until the end.
        looked = tuple(read_system(text) for text in ("w - x >= 0", "v - x >= 0\nx + v >= 2"))
        self.assertEqual(swept(looked, (FREE, FREE, (ZERO, ZERO))), (((2, 1), None), (ZERO, None), (ZERO, ZERO)))

    def test_ends_that_cross_in_the_end(self):
        # The last system is looked at again with the ends that the first one tells.
        systems = (read_system("x - y >= 0"), read_system("y - z >= 0"))
        self.assertIsNone(swept(systems, ((None, (1, 1)), FREE, ((2, 1), None))))
        self.assertEqual(swept(systems, ((None, (2, 1)), FREE, ((2, 1), None))), (((2, 1), (2, 1)),) * 3)

    def test_great_systems(self):
        dice = Dice(438)
        one = any_system(dice, 4, 60, 10 ** 6, 10 ** 6)
        other = System(("d", "e", "f"), any_system(dice, 3, 60, 10 ** 6, 10 ** 6).rows)
        box = any_box(dice, 6, 10 ** 9, 10)
        self.assertEqual(swept((one, other), box), self.by_the_words((one, other), box))


if __name__ == "__main__":
    unittest.main()
