"""Points [92] and [93]: claims, and what is concluded from them."""

import unittest

from rowalone.bars import barring
from rowalone.boxes import box_ends, free_box
from rowalone.checker import check_claim, claim_words, concluded, gathered
from rowalone.closing import least_single
from rowalone.court import Gap, Single, court, is_single
from rowalone.cuts import flow_or_cut
from rowalone.limits import NoRest, Rest, limit
from rowalone.nets import Net, flow_system
from rowalone.pairs import turning
from rowalone.papers import plain_sum, point_or_paper
from rowalone.ranges import least_sum
from rowalone.rings import heights_or_ring
from rowalone.systems import System, system_of
from rowalone.texts import read_system
from rowalone.webs import web_ring
from rowalone.wholes import WholeGap, whole_gap
from tests.helpers import (Anything, Dice, NAMES, any_box, any_net, any_system, odd_values, raised, wrong_boxes)
from tests.test_wholes import triples_system

ZERO, ONE = (0, 1), (1, 1)
CHAIN = System(("x", "y", "z"), (((0, 1, -1), 0), ((1, -1, 0), 0)))
CLOSED = System(("x", "y", "z"), CHAIN.rows + (((1, 0, -1), 0),))
EMPTY = ((None, ZERO), (None, None), (ONE, None))
FREE = ((None, None),) * 3
BARRING = ((None, ZERO), (ONE, None), (None, None))
LINE = System(("x", "y"), (((-2, -1), -1), ((2, 1), 1)))
PAPER = (ONE, ONE)
WORDS = ("blame", "combination", "cut", "flow", "forced", "least", "limit", "paper", "plain", "ring", "solution",
         "turning", "verdict", "web_ring", "whole_gap")
# A net of two nodes: what goes in at the first one comes out at the second one.
NET = Net(("x", "y"), ((0, 1), (0, 1)), ((-2, -2), (2, 2)))
STARVED = (((None, ZERO), (None, ONE)))


def right_claims():
    """For each word a claim that holds."""
    rest = limit(CHAIN, EMPTY)
    even = read_system("x + y >= 0\nx - y >= 1")
    rises = Net(("x", "y"), ((0, 1), (0, 1)), ((0, 0), (0, 0)))
    return {
        "blame": ("blame", CHAIN, EMPTY, ((0, 1), (2, 0))),
        "combination": ("combination", CHAIN, ((1, 2), (3, 1))),
        "cut": ("cut", NET, STARVED, flow_or_cut(NET, STARVED)[1]),
        "flow": ("flow", NET, ((None, None),) * 2, (ONE, ONE)),
        "forced": ("forced", CHAIN, EMPTY, ((2, 0),), (0, 0), ONE),
        "least": ("least", CHAIN, ((None, None), (None, None), (ONE, None)), (1, 0, 0), least_sum(
            CHAIN, ((None, None), (None, None), (ONE, None)), (1, 0, 0))),
        "limit": ("limit", CHAIN, EMPTY, rest),
        "paper": ("paper", CHAIN, EMPTY, PAPER),
        "plain": ("plain", CHAIN, ((1, -1, 0), -3), (ZERO, ONE)),
        "ring": ("ring", rises, ((ONE, None), (None, ZERO)), heights_or_ring(rises, ((ONE, None), (None, ZERO)))[1]),
        "solution": ("solution", CHAIN, (ONE, ONE, ONE)),
        "turning": ("turning", even, turning(even)),
        "verdict": ("verdict", CHAIN, court(CHAIN)),
        "web_ring": ("web_ring", CLOSED, web_ring(CLOSED)),
        "whole_gap": ("whole_gap", LINE, whole_gap(LINE, 1)),
    }


def wrong_claims():
    """Claims of each word that do not hold."""
    even = read_system("x + y >= 0\nx - y >= 1")
    return [
        ("blame", CHAIN, EMPTY, ((0, 1),)), ("combination", CHAIN, ((1, 2), (-3, 1))), ("combination", CHAIN, (ONE,)),
        ("cut", NET, STARVED, ((0, 1), 0)), ("cut", NET, ((None, None),) * 2, ((0,), 0)), ("cut", NET, STARVED, None),
        ("flow", NET, ((None, None),) * 2, (ONE, ZERO)), ("flow", NET, STARVED, (ONE, ONE)), ("flow", NET, STARVED, 7),
        ("forced", CHAIN, EMPTY, ((0, 1),), (0, 0), ONE), ("least", CHAIN, EMPTY, (1, 0, 0), None),
        ("least", CHAIN, FREE, (1, 0, 0), (ZERO, (ZERO,) * 3, PAPER)), ("limit", CHAIN, EMPTY, None),
        ("limit", CHAIN, FREE, limit(CHAIN, EMPTY)), ("paper", CHAIN, FREE, PAPER), ("paper", CHAIN, EMPTY, (ONE, ZERO)),
        ("paper", CHAIN, EMPTY, "xy"), ("plain", CHAIN, ((1, -1, 0), 3), (ZERO, ONE)),
        ("plain", CHAIN, ((1, 0, -1), 0), PAPER), ("ring", NET, STARVED, (1, 1)), ("ring", NET, STARVED, (1, -1)),
        ("solution", CHAIN, (ZERO, ONE, ONE)), ("turning", even, ("turn", ())), ("turning", even, None),
        ("verdict", CLOSED, court(CHAIN)), ("verdict", CHAIN, court(CLOSED)), ("verdict", CHAIN, None),
        ("web_ring", CLOSED, ()), ("web_ring", CHAIN, web_ring(CLOSED)), ("whole_gap", LINE, None),
        ("whole_gap", LINE, WholeGap(1, 0, 0, 0, ((None, None), (2, 2)))),
    ]


class Claims(unittest.TestCase):

    def test_words(self):
        self.assertEqual(claim_words(), WORDS)
        self.assertEqual(tuple(sorted(right_claims())), WORDS)
        self.assertEqual({claim[0] for claim in wrong_claims()}, set(WORDS))

    def test_claims_that_hold_and_do_not(self):
        for claim in right_claims().values():
            self.assertIs(check_claim(claim=claim), True, claim)
        for claim in wrong_claims():
            self.assertIs(check_claim(claim), False, claim)

    def test_values_that_are_no_claims(self):
        for value in odd_values() + [(), ("solution",), ("solution", CHAIN), ("solution", CHAIN, (ZERO,) * 3, None),
                                     ["solution", CHAIN, (ZERO,) * 3], ("holds", CHAIN, (ZERO,) * 3), "solution",
                                     ("Solution", CHAIN, (ZERO,) * 3), (b"solution", CHAIN, (ZERO,) * 3), (1, 2, 3),
                                     (("solution",), CHAIN, (ZERO,) * 3), (["solution"], CHAIN, (ZERO,) * 3),
                                     ("is_flow", NET, STARVED, (ONE, ONE)), (Anything(), CHAIN, (ZERO,) * 3)]:
            self.assertIs(check_claim(value), False, value)
        for word, claim in right_claims().items():
            for wrong in (claim[:-1], claim + (None,), claim + (claim[-1],), list(claim), ("x" + word,) + claim[1:],
                          (word,), (None,) + claim[1:], ([word],) + claim[1:]):
                self.assertIs(check_claim(wrong), False)

    def test_any_last_values(self):
        # The last argument of these may be any value.
        for word, claim in right_claims().items():
            if word not in ("blame", "forced", "solution"):
                for value in odd_values() + [Single(None), Rest(1, 2, 3), NoRest(Anything()), Gap(0, 0, 0, 0, 0),
                                             Gap(Anything(), None, True, (), []), WholeGap(*[Anything()] * 5)]:
                    self.assertIs(check_claim(claim[:-1] + (value,)), False, (word, value))

    def test_other_errors_pass(self):
        pairs = read_system("x + 2 y >= 0")
        for claim, error in ((("solution", CHAIN, (ZERO, ZERO)), ("InvalidPoint", -1)),
                             (("solution", CHAIN, (ZERO, 0, ZERO)), ("InvalidPoint", 1)),
                             (("paper", CHAIN, None, PAPER), ("InvalidBox", -1)),
                             (("least", CHAIN, (FREE[0], None, None), (1, 0, 0), None), ("InvalidBox", 1)),
                             (("blame", CHAIN, (None,) * 3, ()), ("InvalidBox", 0)),
                             (("forced", CHAIN, FREE[:2], (), (0, 0), ONE), ("InvalidBox", -1)),
                             (("limit", CHAIN, FREE[:2], None), ("InvalidBox", -1)),
                             (("cut", NET, FREE, None), ("InvalidBox", -1)),
                             (("flow", NET, FREE, None), ("InvalidBox", -1)),
                             (("ring", NET, FREE, None), ("InvalidBox", -1)),
                             (("turning", pairs, None), ("Refused", "pair"))):
            self.assertEqual(raised(check_claim, claim), error, claim)
            self.assertEqual(raised(concluded, CHAIN, EMPTY, (claim,)), error)
            # In their sequence, after claims that hold or do not.
            self.assertEqual(raised(concluded, CHAIN, EMPTY, (*right_claims().values(), None, claim, (
                "paper", CHAIN, FREE[:1], PAPER))), error)

    def test_verdicts_over_many_triples(self):
        system = triples_system(1)
        self.assertIs(check_claim(("verdict", system, Single(()))), False)


class Concluded(unittest.TestCase):

    def test_boxes_are_checked_first(self):
        for value, at in wrong_boxes(3):
            self.assertEqual(raised(concluded, CHAIN, value, (("paper", CHAIN, None, PAPER),)), ("InvalidBox", at), value)
            self.assertEqual(raised(gathered, CHAIN, value), ("InvalidBox", at), value)

    def test_nothing(self):
        self.assertEqual(concluded(CHAIN, EMPTY, ()), ())
        self.assertEqual(concluded(claims=(None, (), ("solution", CHAIN, (ZERO, ONE, ONE))), box=FREE, system=CHAIN), ())
        self.assertEqual(concluded(CHAIN, BARRING, ()), ("empty",))

    def test_ordinary_inputs(self):
        right = right_claims()
        single = ("verdict", CLOSED, court(CLOSED))
        self.assertEqual(concluded(CHAIN, EMPTY, (right["paper"],)), ("empty", "gap"))
        self.assertEqual(concluded(CHAIN, EMPTY, (right["paper"], right["verdict"])), ("empty", "gap"))
        self.assertEqual(concluded(CHAIN, FREE, (right["verdict"],)), ("gap",))
        self.assertEqual(concluded(CHAIN, FREE, (right["solution"], right["verdict"])), ("gap", "solution"))
        self.assertEqual(concluded(CLOSED, FREE, (single,)), ("single", "solution"))
        self.assertEqual(concluded(CLOSED, EMPTY, (single,)), ("empty", "single"))
        self.assertEqual(concluded(CHAIN, EMPTY, (single,)), ())
        for word in ("combination", "forced", "plain", "ring", "turning", "web_ring", "whole_gap", "cut", "flow"):
            self.assertEqual(concluded(CHAIN, EMPTY, (right[word],)), ())

    def test_solutions(self):
        box = ((ONE, None), (None, None), (ONE, (2, 1)))
        point = (ONE, ONE, ONE)
        least = ("least", CHAIN, box, (1, 1, 1), least_sum(CHAIN, box, (1, 1, 1)))
        self.assertEqual(least[4][1], point)
        for claim in (("solution", CHAIN, point), least, ("solution", CLOSED, point),
                      ("solution", System(("x", "y", "z"), ()), point)):
            self.assertEqual(concluded(CHAIN, box, (claim,)), ("solution",))
            self.assertEqual(concluded(CLOSED, box, (claim,)), ("solution",))
            # Not in the box, or no solution of this system, or other names.
            self.assertEqual(concluded(CHAIN, ((None, None), ((2, 1), None), (None, None)), (claim,)), ())
            self.assertEqual(concluded(System(CHAIN.names, CHAIN.rows + (((1, 1, 0), 3),)), box, (claim,)), ())
            self.assertEqual(concluded(System(("x", "y", "zz"), CHAIN.rows), box, (claim,)), ())
        net = Net(("x", "y"), ((0, 1), (0, 1)), ((-2, -2), (2, 2)))
        flow = ("flow", net, ((None, None),) * 2, (ONE, ONE))
        self.assertEqual(concluded(flow_system(net), ((ZERO, ONE), (None, None)), (flow,)), ("solution",))
        self.assertEqual(concluded(read_system("x - y >= 0"), ((ZERO, ONE), (None, None)), (flow,)), ("solution",))
        self.assertEqual(concluded(read_system("x - y >= 1"), ((ZERO, ONE), (None, None)), (flow,)), ())
        self.assertEqual(concluded(read_system("x - z >= 0"), ((ZERO, ONE), (None, None)), (flow,)), ())

    def test_single_by_a_restriction(self):
        whole = read_system("x - y >= 0\ny - z >= 0\nx - z >= 0\nt >= 3\nx + t >= 5")
        verdict = ("verdict", whole, court(whole))
        self.assertIsInstance(verdict[2], Single)
        for names, rows in ((("x", "y", "z"), CLOSED.rows), (("t",), (((1,), 3),)), (("x",), ()),
                            (("t", "x"), (((1, 0), 3), ((1, 1), 5))), (whole.names, whole.rows)):
            self.assertIn("single", concluded(System(names, rows), ((None, None),) * len(names), (verdict,)))
        for names, rows in ((("x", "y", "z"), CHAIN.rows), (("t",), (((1,), 2),)), (("t",), ()), (("q",), ()),
                            (("x", "y"), (((0, 1), 0), ((1, -1), 0))), (("t", "x"), (((1, 0), 3),))):
            self.assertNotIn("single", concluded(System(names, rows), ((None, None),) * len(names), (verdict,)))

    def test_single_by_further_rows(self):
        more = ((2, -1, -1), -1)
        system = System(CLOSED.names, tuple(sorted(CLOSED.rows + (more, ((1, -1, 0), -4)))))
        verdict = ("verdict", CLOSED, court(CLOSED))
        plain = [("plain", CLOSED, row, plain_sum(CLOSED, row)) for row in (more, ((1, -1, 0), -4))]
        self.assertEqual(concluded(system, EMPTY, (verdict, *plain)), ("empty", "single"))
        self.assertEqual(concluded(system, FREE, (plain[1], verdict, plain[0])), ("single", "solution"))
        for some in ((verdict,), (verdict, plain[0]), (verdict, plain[1]), tuple(plain),
                     (verdict, plain[0], ("plain", CLOSED, ((1, -1, 0), -4), (ZERO,) * 3)),
                     (verdict, plain[0], ("plain", CHAIN, ((1, -1, 0), -4), plain_sum(CHAIN, ((1, -1, 0), -4))))):
            self.assertNotIn("single", concluded(system, FREE, some))
        # Rows of the verdict's system that are not there, and other names.
        less = System(CLOSED.names, tuple(row for row in system.rows if row != CLOSED.rows[0]))
        self.assertNotIn("single", concluded(less, FREE, (verdict, *plain)))
        other = System(("t", "y", "z"), system.rows)
        self.assertNotIn("single", concluded(other, FREE, (verdict, *plain)))

    def test_empty_by_claims_of_each_word(self):
        right = right_claims()
        gap = right["verdict"]
        smaller = ((None, (-1, 1)), (ZERO, ZERO), ((3, 1), (4, 1)))
        for claim in (right["paper"], right["blame"], right["limit"], ("blame", CHAIN, (
                (None, ZERO), ((5, 1), (5, 1)), (ONE, None)), ((0, 1), (2, 0))), ("limit", RISING, UNIT, limit(RISING, UNIT))):
            system = claim[1]
            box = smaller if system is CHAIN else (((1, 2), ONE), (ZERO, ONE))
            if claim[0] == "limit" and isinstance(claim[3], Rest):
                self.assertEqual(concluded(system, EMPTY, (claim,)), ())
                continue
            if barring(system, box):
                self.assertEqual(concluded(system, box, (claim,)), ("empty",))
            else:
                self.assertEqual(concluded(system, box, (claim,)), ("empty", "gap"))
        self.assertEqual(concluded(CHAIN, smaller, (right["paper"],)), ("empty",))
        self.assertEqual(concluded(CHAIN, gap[2].box, (gap,)), ("empty", "gap"))
        self.assertEqual(concluded(CHAIN, FREE, (gap, right["paper"], right["blame"])), ("gap",))
        self.assertEqual(concluded(CHAIN, ((None, ONE), (None, None), (ONE, None)), (right["paper"],)), ())

    def test_ends_of_a_blame(self):
        box = ((None, ZERO), ((5, 1), (5, 1)), (ONE, None))
        wide = ((None, ZERO), ((6, 1), None), (ONE, None))
        two, all_of_them = ((0, 1), (2, 0)), box_ends(box)
        self.assertIn("empty", concluded(CHAIN, EMPTY, (("blame", CHAIN, box, two),)))
        self.assertNotIn("empty", concluded(CHAIN, EMPTY, (("blame", CHAIN, box, all_of_them),)))
        free = System(CHAIN.names, CHAIN.rows[:1])
        self.assertEqual(concluded(free, wide, (("blame", CHAIN, box, two),)), ())

    def test_rows_that_follow(self):
        # Sharper rows are enough for a claim over the chain, weaker ones are not.
        sharper = System(CHAIN.names, (((0, 2, -2), 1), ((1, -1, 0), 0), ((1, 1, 1), -5)))
        weaker = System(CHAIN.names, (((0, 1, -1), -1), ((1, -1, 0), 0)))
        fewer = System(CHAIN.names, CHAIN.rows[:1])
        other = System(("t", "y", "z"), CHAIN.rows)
        for claim in (right_claims()["paper"], right_claims()["blame"], ("verdict", CHAIN, Gap(0, 1, 1, EMPTY, PAPER))):
            self.assertEqual(concluded(sharper, EMPTY, (claim,)), ("empty", "gap"))
            for system in (weaker, fewer, other):
                self.assertEqual(concluded(system, EMPTY, (claim,)), ())
        self.assertEqual(concluded(fewer, EMPTY, (("paper", System(CHAIN.names, ()), EMPTY, ()),)), ())

    def test_cuts(self):
        cut = right_claims()["cut"]
        system = flow_system(NET)
        inner = ((None, (-1, 1)), (ZERO, (1, 2)))
        self.assertEqual(concluded(system, STARVED, (cut,)), ("empty",))
        # The rows of single nodes are those of the cuts here; without them the claim is enough nowhere.
        self.assertEqual(concluded(System(("x", "y"), system.rows[:1]), inner, (cut,)), ("empty",) if barring(
            System(("x", "y"), system.rows[:1]), inner) else ())
        long = Net(("x", "y", "z"), ((0, 1), (1, 2), (2, 3)), ((None, None), (0, 0), (0, 0), (1, 1)))
        box = ((None, ZERO), (None, None), (None, None))
        word, found = flow_or_cut(long, box)
        claim = ("cut", long, box, found)
        self.assertEqual(word, "cut")
        self.assertEqual(concluded(flow_system(long), box, (claim,)), ("empty", "gap"))
        self.assertEqual(concluded(flow_system(long), FREE, (claim,)), ())
        self.assertEqual(concluded(System(("x", "y", "z"), ()), box, (claim,)), ())
        self.assertEqual(concluded(System(("q", "y", "z"), flow_system(long).rows), box, (claim,)), ())

    def test_nets_without_a_system(self):
        net = Net(("x",), ((0, 0),), ((1, 1),))
        box = ((None, None),)
        claim = ("cut", net, box, flow_or_cut(net, box)[1])
        self.assertEqual(raised(flow_system, net), ("Refused", "zero"))
        self.assertIs(check_claim(claim), True)
        for system in (System(("x",), ()), read_system("x >= 0")):
            self.assertEqual(concluded(system, box, (claim,)), ())

    def test_gaps_of_restrictions(self):
        whole = read_system("x - y >= 0\ny - z >= 0\nt - x >= 0\nt >= 3")
        gap = ("verdict", CHAIN, court(CHAIN))
        box = ((None, None),) * 4
        self.assertEqual(concluded(whole, box, (gap,)), ("gap",))
        self.assertEqual(concluded(CHAIN, FREE, (("verdict", whole, court(whole)),)), ())
        for other in (read_system("x - y >= 0\ny - z >= 0\nx - z >= 0\nt >= 3"), read_system("x - y >= 0\nt - z >= 0"),
                      read_system("x - y >= 1\ny - z >= 0\nt >= 3")):
            self.assertEqual(concluded(other, box, (gap,)), ())

    def test_never_both(self):
        dice = Dice(661)
        seen = dict.fromkeys(("empty", "gap", "single", "solution"), 0)
        for _ in range(250):
            system = any_system(dice, dice.between(1, 3), dice.between(0, 4), 1, 1)
            box = any_box(dice, len(system.names), 2, 8)
            claims = list(gathered(system, box))
            for other in (least_single(system) if raised(least_single, system) is None else system,
                          System(system.names, system.rows[:1]), system):
                part = any_box(dice, len(system.names), 2, 8)
                claims += gathered(other, part)
                claims.append(("limit", other, part, limit(other, part)))
                claims.append(("blame", other, part, box_ends(part)))
                if point_or_paper(other, part)[0] == "point":
                    goal = tuple(dice.between(-1, 1) for _ in system.names)
                    claims.append(("least", other, part, goal, least_sum(other, part, goal)))
            some = tuple(claim for claim in claims if dice.chance(1, 2))
            found = concluded(system, box, some)
            self.assertEqual(found, tuple(sorted(found)))
            for word in found:
                seen[word] += 1
            empty = point_or_paper(system, box)[0] == "paper"
            single = is_single(system)
            self.assertFalse(("empty" in found and not empty) or ("solution" in found and empty))
            self.assertFalse(("single" in found and not single) or ("gap" in found and single))
            expected = {"empty" if empty else "solution", "single" if single else "gap"}
            self.assertEqual(set(concluded(system, box, tuple(claims))), expected)
        self.assertGreater(min(seen.values()), 40, seen)

    def test_nets(self):
        dice = Dice(662)
        seen = {"flow": 0, "cut": 0}
        for _ in range(150):
            net = any_net(dice, 3)
            if raised(flow_system, net) is None:
                system, box = flow_system(net), any_box(dice, len(net.names), 3, 7)
                word, found = flow_or_cut(net, box)
                seen[word] += 1
                self.assertIn("solution" if word == "flow" else "empty", concluded(system, box, ((word, net, box, found),)))
        self.assertGreater(min(seen.values()), 25)


class Gathered(unittest.TestCase):

    def test_ordinary_inputs(self):
        for system, box, words in ((CHAIN, EMPTY, ("empty", "gap")), (CHAIN, FREE, ("gap", "solution")),
                                   (CLOSED, EMPTY, ("empty", "single")), (CLOSED, FREE, ("single", "solution")),
                                   (System(NAMES, ()), free_box(System(NAMES, ())), ("single", "solution")),
                                   (read_system("x >= 1\nx <= 0"), ((None, None),), ("empty", "gap"))):
            claims = gathered(box=box, system=system)
            self.assertIsInstance(claims, tuple)
            self.assertEqual([claim[0] for claim in claims], ["verdict", "solution" if "solution" in words else "paper"])
            self.assertEqual([claim[1] for claim in claims], [system, system])
            if claims[1][0] == "paper":
                self.assertEqual(claims[1][2], box)
            self.assertTrue(all(check_claim(claim) for claim in claims))
            self.assertEqual(concluded(system, box, claims), words)

    def test_too_many_triples(self):
        system = triples_system(1)
        self.assertEqual(raised(gathered, system, free_box(system)), ("Refused", "wide"))
        self.assertIsNone(raised(gathered, triples_system(0), free_box(system)))

    def test_random_inputs(self):
        dice = Dice(663)
        seen = {}
        for _ in range(200):
            system = any_system(dice, dice.between(1, 3), dice.between(0, 4), 1, 2)
            box = any_box(dice, len(system.names), 2, 8)
            words = concluded(system, box, gathered(system, box))
            seen[words] = seen.get(words, 0) + 1
            self.assertEqual(len(words), 2)
            self.assertEqual("empty" in words, point_or_paper(system, box)[0] == "paper")
            self.assertEqual("single" in words, is_single(system))
        self.assertEqual(len(seen), 4)
        self.assertEqual(system_of(("x",), ()), System(("x",), ()))


RISING = read_system("x - y >= 1\ny - x >= 0")
UNIT = ((ZERO, ONE), (ZERO, ONE))


if __name__ == "__main__":
    unittest.main()
