"""Points [51] to [54]: arcs, ways and rings of difference rows, and what they tell."""

import unittest
from itertools import permutations

from rowalone.boxes import free_box, placed
from rowalone.court import is_single
from rowalone.differences import (arc_of, arc_row, barring_way, closed_differences, least_difference, longest_ways,
                                  open_triple, positive_ring, way_arc)
from rowalone.eliminations import eliminations
from rowalone.papers import elimination_sum, is_sum_of, least_in, point_or_paper
from rowalone.bars import told
from rowalone.systems import System, system_of
from rowalone.texts import read_system, show_system
from tests.helpers import (Anything, Dice, NAMES, any_box, any_fraction, frac, is_barred, is_kept, odd_values, pair,
                           points_on_grid, raised, wrong_boxes)

ZERO = (0, 1)
CHAIN = read_system("x - y >= 1\n2 y - 2 z >= 1\nz >= 0")
NO_DIFFERENCE = [((1, 1, 0), 0), ((2, -1, 0), 0), ((1, -1, 1), 0), ((1, -2, 1), 0), ((-1, 0, -1), 3)]


def any_differences(dice, size, many, limit, bottoms=3):
    """A system of difference rows."""
    rows = []
    for _ in range(many):
        one, other = dice.below(size + 1), dice.below(size + 1)
        if one != other:
            length = pair(frac((dice.between(-limit, limit), 1)) / dice.between(1, bottoms))
            numbers = [0] * (size + 2)
            numbers[one], numbers[other] = length[1], -length[1]
            rows.append((tuple(numbers[:size]), length[0]))
    return system_of(NAMES[:size], tuple(rows))


def arcs_by_hand(system):
    """The arcs of the rows, with Python's own fractions, by the words."""
    found = []
    for numbers, bound in system.rows:
        one = next((at for at, number in enumerate(numbers) if number > 0), len(numbers))
        other = next((at for at, number in enumerate(numbers) if number < 0), len(numbers))
        found.append((one, other, frac((bound, 1)) / max(abs(number) for number in numbers)))
    return found


def greatest_lengths(system):
    """For each two nodes the greatest length of a way that comes to no node twice, rings too."""
    size = len(system.names) + 1
    best = {}
    for one, other, length in arcs_by_hand(system):
        best[(one, other)] = max(length, best.get((one, other), length))
    found = {}
    for many in range(2, size + 1):
        for nodes in permutations(range(size), many):
            pairs = list(zip(nodes, nodes[1:]))
            if all(step in best for step in pairs):
                length = sum(best[step] for step in pairs)
                ends = (nodes[0], nodes[-1])
                found[ends] = max(length, found.get(ends, length))
                if (nodes[-1], nodes[0]) in best:
                    ring = length + best[(nodes[-1], nodes[0])]
                    found[(nodes[0], nodes[0])] = max(ring, found.get((nodes[0], nodes[0]), ring))
    return found


def is_plain(system, way):
    """Whether a way is plain, by the words."""
    arcs = [arcs_by_hand(system)[number] for number in way]
    starts = [arc[0] for arc in arcs]
    last = arcs[-1][1]
    return len(set(starts)) == len(starts) and (last == starts[0] or last not in starts)


class Arcs(unittest.TestCase):

    def test_examples(self):
        self.assertEqual([arc_of(row) for row in CHAIN.rows], [(2, 3, ZERO), (1, 2, (1, 2)), (0, 1, (1, 1))])

    def test_arcs_with_the_ground(self):
        self.assertEqual(arc_of(((3, 0), 5)), (0, 2, (5, 3)))
        self.assertEqual(arc_of(((0, -2), 5)), (2, 1, (5, 2)))
        self.assertEqual(arc_of(row=((-4,), -6)), (1, 0, (-3, 2)))
        self.assertEqual(arc_row(2, (0, 2, (5, 3))), ((3, 0), 5))
        self.assertEqual(arc_row(2, (2, 1, (5, 2))), ((0, -2), 5))
        self.assertEqual(arc_row(arc=(1, 0, (0, 1)), size=3), ((-1, 1, 0), 0))

    def test_rows_that_are_no_difference_rows(self):
        for row in NO_DIFFERENCE:
            self.assertEqual(raised(arc_of, row), ("Refused", "difference"))

    def test_the_same_points_keep_both(self):
        dice = Dice(341)
        for _ in range(200):
            size = dice.between(1, 6)
            nodes = list(range(size + 1))
            one = nodes.pop(dice.below(size + 1))
            arc = (one, dice.pick(nodes), any_fraction(dice, dice.pick((3, 10 ** 9))))
            row = arc_row(size, arc)
            self.assertEqual(arc_of(row), arc)
            self.assertIsNone(raised(System, NAMES[:size], (row,)))
            for _ in range(5):
                point = tuple(any_fraction(dice, 4) for _ in range(size))
                values = [frac(value) for value in point] + [0]
                self.assertEqual(is_kept(row, point), values[arc[0]] - values[arc[1]] >= frac(arc[2]))


class Ways(unittest.TestCase):

    def test_examples(self):
        self.assertEqual((longest_ways(CHAIN)[(0, 3)], way_arc(CHAIN, (2, 1, 0)), open_triple(CHAIN)),
                         ((2, 1, 0), (0, 3, (3, 2)), (0, 1, 2)))

    def test_rows_are_checked(self):
        for row in NO_DIFFERENCE:
            system = System(("x", "y", "z"), tuple(sorted([row, ((1, 0, 0), 0)])))
            for call, more in ((way_arc, (None,)), (positive_ring, ()), (longest_ways, ()), (open_triple, ()),
                               (closed_differences, ()), (barring_way, (free_box(system),)),
                               (least_difference, (free_box(system), 0, 1))):
                self.assertEqual(raised(call, system, *more), ("Refused", "difference"))
            for call, more in ((barring_way, ()), (least_difference, (0, 1))):
                self.assertEqual(raised(call, system, None, *more), ("InvalidBox", -1))

    def test_boxes_are_checked_first(self):
        for value, at in wrong_boxes(3):
            self.assertEqual(raised(barring_way, CHAIN, value), ("InvalidBox", at), value)
            self.assertEqual(raised(least_difference, CHAIN, value, 0, 1), ("InvalidBox", at), value)

    def test_values_that_are_no_ways(self):
        ring = read_system("x - y >= 0\ny - x >= 0")
        wrong = [(), (3,), (-1,), (True,), (0, False), (0, 1, 1), [0], (0.0,), ("0",), (None,), ((0,),), (0, 1, 3),
                 Anything(), (Anything(),), 10 ** 30, (10 ** 30,), (1, 2), (0, 2), (0, 0)]
        for value in odd_values() + wrong:
            self.assertEqual(raised(way_arc, CHAIN, value), ("Refused", "way"), value)
        self.assertEqual(way_arc(way=(1,), system=CHAIN), (1, 2, (1, 2)))
        # Ways may come to a node again and again.
        self.assertEqual(way_arc(ring, (0, 1, 0, 1, 0)), (1, 0, ZERO))
        self.assertEqual(way_arc(ring, (0, 1)), (1, 1, ZERO))
        self.assertEqual(raised(way_arc, System(("x",), ()), (0,)), ("Refused", "way"))
        self.assertEqual(raised(way_arc, System(("x",), ()), ()), ("Refused", "way"))

    def test_lengths_of_ways(self):
        dice = Dice(342)
        seen = {True: 0, False: 0}
        for _ in range(300):
            system = any_differences(dice, dice.between(1, 3), dice.between(2, 8), 9)
            arcs = arcs_by_hand(system)
            if not arcs:
                continue
            way = [dice.below(len(arcs))]
            for _ in range(dice.below(4)):
                nexts = [at for at, arc in enumerate(arcs) if arc[0] == arcs[way[-1]][1]]
                way.append(dice.pick(nexts) if nexts and dice.chance(9, 10) else dice.below(len(arcs)))
            right = all(arcs[a][1] == arcs[b][0] for a, b in zip(way, way[1:]))
            seen[right] += 1
            if right:
                total = (arcs[way[0]][0], arcs[way[-1]][1], pair(sum(arcs[at][2] for at in way)))
                self.assertEqual(way_arc(system, tuple(way)), total)
            else:
                self.assertEqual(raised(way_arc, system, tuple(way)), ("Refused", "way"))
        self.assertGreater(min(seen.values()), 30)

    def test_rings_and_longest_ways(self):
        dice = Dice(343)
        seen = {True: 0, False: 0}
        for _ in range(300):
            size = dice.between(1, 5)
            system = any_differences(dice, size, dice.between(0, 14), dice.pick((2, 6)))
            lengths = greatest_lengths(system)
            positive = any(length > 0 for (one, other), length in lengths.items() if one == other)
            seen[positive] += 1
            self.assertEqual(point_or_paper(system, free_box(system))[0] == "paper", positive)
            ring = positive_ring(system)
            self.assertEqual(ring is not None, positive)
            if positive:
                self.check_ring(system, ring)
                self.assertEqual(raised(longest_ways, system), ("Refused", "none"))
                self.assertEqual(raised(closed_differences, system), ("Refused", "none"))
                continue
            ways = longest_ways(system)
            self.assertEqual(set(ways), {ends for ends in lengths if ends[0] != ends[1]})
            for ends, way in ways.items():
                self.assertEqual(way_arc(system, way), (*ends, pair(lengths[ends])))
                self.assertTrue(is_plain(system, way))
        self.assertGreater(min(seen.values()), 60)

    def check_ring(self, system, ring):
        one, other, length = way_arc(system, ring)
        self.assertEqual(one, other)
        self.assertGreater(length[0], 0)
        self.assertTrue(is_plain(system, ring))

    def test_six_names_and_sixty_rows(self):
        dice = Dice(344)
        for limit in (10, 10 ** 6):
            for lift in (0, limit):
                system = any_differences(dice, 6, 200, limit)
                rows = tuple((row[0], row[1] - lift * max(row[0])) for row in system.rows if any(row[0]))
                system = System(NAMES, tuple(sorted(rows))[:60])
                ring = positive_ring(system)
                if ring is not None:
                    self.check_ring(system, ring)
                    self.assertIsNotNone(barring_way(system, free_box(system)))
                else:
                    for way in longest_ways(system).values():
                        self.assertTrue(is_plain(system, way))

    def test_results_may_be_changed(self):
        ways = longest_ways(CHAIN)
        ways.clear()
        self.assertEqual(len(longest_ways(CHAIN)), 6)
        self.assertEqual(longest_ways(System(("x",), ())), {})

    def test_barring_ways(self):
        dice = Dice(345)
        seen = {"point": 0, "ring": 0, "way": 0}
        for _ in range(400):
            size = dice.between(1, 5)
            system = any_differences(dice, size, dice.between(0, 10), 2)
            box = any_box(dice, size, 3, dice.between(2, 10))
            way = barring_way(system, box)
            if point_or_paper(system, box)[0] == "point":
                seen["point"] += 1
                self.assertIsNone(way)
                continue
            self.assertTrue(is_plain(system, way))
            one, other, length = way_arc(system, way)
            if one == other:
                seen["ring"] += 1
                self.assertGreater(length[0], 0)
            else:
                seen["way"] += 1
                self.assertTrue(is_barred(arc_row(size, (one, other, length)), box))
        self.assertGreater(min(seen.values()), 50)

    def test_ends_that_touch(self):
        system = read_system("x - y >= 1")
        self.assertIsNone(barring_way(system, ((None, (1, 1)), (ZERO, None))))
        self.assertEqual(barring_way(box=((None, (1, 1)), ((1, 10 ** 9), None)), system=system), (0,))


class Singles(unittest.TestCase):

    def test_examples(self):
        self.assertEqual(show_system(closed_differences(CHAIN)),
                         "z >= 0\n2 y - 2 z >= 1\n2 y >= 1\nx - y >= 1\n2 x - 2 z >= 3\n2 x >= 3")

    def test_open_triples(self):
        dice = Dice(346)
        seen = {True: 0, False: 0}
        for _ in range(400):
            system = any_differences(dice, dice.between(1, 4), dice.between(0, 9), dice.pick((1, 3)), 2)
            if dice.chance(1, 3) and positive_ring(system) is None:
                system = closed_differences(system)
            lost = [triple for triple in eliminations(system) if elimination_sum(system, triple) is None]
            found = open_triple(system)
            seen[found is None] += 1
            self.assertEqual(found, lost[0] if lost else None)
            self.assertEqual(found is None, is_single(system))
        self.assertGreater(min(seen.values()), 80)

    def test_open_triples_without_coefficients(self):
        self.assertEqual(open_triple(read_system("x - y >= 0\ny - x >= 1")), (0, 1, 1))
        self.assertIsNone(open_triple(read_system("x - y >= -1\ny - x >= 1")))
        self.assertEqual(open_triple(read_system("x >= 1\nx <= 0")), (1, 0, 0))
        self.assertIsNone(open_triple(System(NAMES, ())))

    def test_two_rows_over_the_ground(self):
        # x - z >= 0 is x >= 1 and z <= 1 together, but no sum of x >= 1 and z <= 2.
        self.assertIsNone(open_triple(read_system("x - y >= 0\ny - z >= 0\nx >= 1\nz <= 1")))
        self.assertIsNotNone(open_triple(read_system("x - y >= 0\ny - z >= 0\nx >= 1\nz <= 2")))
        self.assertIsNone(open_triple(read_system("x - y >= 0\ny - z >= 0\nx >= 1\nz <= 2\nx - z >= 0")))

    def test_the_most_triples(self):
        rows = [((1, -1), number) for number in range(-99, -69)] + [((-1, 1), number) for number in range(-29, 1)]
        self.assertIsNone(open_triple(System(("x", "y"), tuple(sorted(rows)))))
        self.assertEqual(len(eliminations(System(("x", "y"), tuple(sorted(rows))))), 1800)

    def test_closed_systems(self):
        dice = Dice(347)
        checked = 0
        while checked < 100:
            size = dice.between(1, 4)
            system = any_differences(dice, size, dice.between(0, 8), 6)
            if positive_ring(system) is not None:
                continue
            checked += 1
            closed = closed_differences(system)
            self.assertEqual(closed.names, system.names)
            self.assertTrue(is_single(closed))
            for row in closed.rows:
                self.assertFalse(is_sum_of([other for other in closed.rows if other != row], row))
                word, point, _ = least_in(system, free_box(system), row[0])
                self.assertEqual((word, sum(n * frac(v) for n, v in zip(row[0], point))), ("least", row[1]))
            for row in system.rows:
                self.assertTrue(is_sum_of(closed.rows, row))
            self.assertEqual(closed_differences(closed), closed)

    def test_rows_of_greatest_lengths(self):
        dice = Dice(348)
        checked = 0
        while checked < 100:
            size = dice.between(1, 4)
            system = any_differences(dice, size, dice.between(0, 9), 3)
            if positive_ring(system) is not None:
                continue
            checked += 1
            lengths = {ends: length for ends, length in greatest_lengths(system).items() if ends[0] != ends[1]}
            rows = []
            for (one, other), length in lengths.items():
                over = lengths.get((one, size)), lengths.get((size, other))
                if size in (one, other) or None in over or length > sum(over):
                    rows.append(arc_row(size, (one, other, pair(length))))
            self.assertEqual(closed_differences(system=system), System(system.names, tuple(sorted(rows))))


class LeastDifferences(unittest.TestCase):

    def test_ordinary_inputs(self):
        free = free_box(CHAIN)
        self.assertEqual(least_difference(CHAIN, free, 0, 3), (3, 2))
        self.assertIsNone(least_difference(CHAIN, free, 3, 0))
        self.assertEqual(least_difference(other=0, one=3, box=((None, (2, 1)),) + free[1:], system=CHAIN), (-2, 1))
        self.assertEqual(least_difference(System(("x", "y"), ()), ((ZERO, None), (None, (5, 3))), 0, 1), (-5, 3))
        self.assertIsNone(least_difference(System(("x", "y"), ()), ((ZERO, None), (None, (5, 3))), 1, 0))

    def test_empty_boxes(self):
        self.assertEqual(raised(least_difference, CHAIN, ((None, (1, 1)),) + ((None, None),) * 2, 0, 1),
                         ("Refused", "empty"))
        clash = read_system("x >= 1\nx <= 0")
        self.assertEqual(raised(least_difference, clash, ((None, None),), 0, 1), ("Refused", "empty"))
        self.assertEqual(raised(least_difference, System(("x", "y"), (((1, 1), 0),)), ((None, None),) * 2, 0, 1),
                         ("Refused", "difference"))

    def test_against_least_sums(self):
        dice = Dice(349)
        seen = [0, 0, 0]
        for _ in range(300):
            size = dice.between(1, 5)
            system = any_differences(dice, size, dice.between(0, 8), 3)
            box = any_box(dice, size, 4, dice.between(1, 8))
            nodes = list(range(size + 1))
            one = nodes.pop(dice.below(size + 1))
            other = dice.pick(nodes)
            goal = [int(at == one) - int(at == other) for at in range(size)]
            word, point, _ = least_in(system, box, goal)
            if word == "none":
                seen[0] += 1
                self.assertEqual(raised(least_difference, system, box, one, other), ("Refused", "empty"))
            elif word == "endless":
                seen[1] += 1
                self.assertIsNone(least_difference(system, box, one, other))
            else:
                seen[2] += 1
                value = sum(number * frac(part) for number, part in zip(goal, point))
                self.assertEqual(least_difference(system, box, one, other), pair(value))
                self.check_single(system, box, one, other)
        self.assertGreater(min(seen), 40)

    def check_single(self, system, box, one, other):
        """What one pass of a single system tells of a difference."""
        closed = closed_differences(system)
        ends = told(closed, box) + ((ZERO, ZERO),)
        lengths = [length for start, stop, length in arcs_by_hand(closed) if (start, stop) == (one, other)]
        if ends[one][0] is not None and ends[other][1] is not None:
            lengths.append(frac(ends[one][0]) - frac(ends[other][1]))
        self.assertEqual(least_difference(closed, box, one, other), pair(max(lengths)))

    def test_points_at_the_least_difference(self):
        box = ((ZERO, (4, 1)), (ZERO, (4, 1)), (ZERO, (4, 1)))
        value = least_difference(CHAIN, box, 0, 2)
        self.assertEqual(value, (3, 2))
        self.assertIsNone(barring_way(CHAIN, placed(placed(box, 0, (3, 2)), 2, ZERO)))
        solutions = [point for point in points_on_grid(3, [(n, 2) if n % 2 else (n // 2, 1) for n in range(9)])
                     if all(is_kept(row, point) for row in CHAIN.rows)]
        self.assertEqual(min(frac(point[0]) - frac(point[2]) for point in solutions), frac(value))


if __name__ == "__main__":
    unittest.main()
