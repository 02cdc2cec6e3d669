"""Print what many calls return, so that the results of two Pythons can be compared line by line."""

from rowalone import (bars, blame, boxes, changed, checker, chosen, closing, counting, court, cuts, differences,
                      eliminations, equations, forget, fractions, learning, limits, live, loosening, mixing, nets, pairs,
                      papers, passes, patterns, ranges, rewriting, rings, systems, texts, together, webrings, webs,
                      wholes)
from tests.helpers import Dice, NAMES, any_box, any_fraction, any_net, any_numbers, any_row, any_system, odd_values

OBJECTS = (systems.System, nets.Net, court.Single, court.Gap, chosen.Stuck, limits.Rest, limits.NoRest, wholes.WholeGap)


def shown(value):
    """A result as text, with the attributes of objects; dicts in their order."""
    if isinstance(value, tuple):
        return f"({', '.join(map(shown, value))})"
    if isinstance(value, OBJECTS):
        return f"{type(value).__name__}{sorted(vars(value).items())!r}"
    return repr(value)


def tell(call, *values):
    try:
        result = shown(call(*values))
    except ValueError as error:
        result = f"{type(error).__name__} {sorted(vars(error).items())!r}"
    print(getattr(call, "__module__", ""), call.__name__, result)


def tell_values():
    system = any_system(Dice(1), 2, 3, 2, 2)
    for value in odd_values():
        tell(fractions.is_fraction, value)
        tell(boxes.check_box, system, value)
        tell(boxes.check_point, system, value)
        tell(webs.is_web_ring, system, value)
        tell(papers.check_combination, system, value)
        tell(systems.System, value, value)
        tell(systems.System, ("x",), value)
        tell(nets.Net, ("x",), value, value)
        tell(texts.read_system, value)
        for verdict in (value, court.Single(value), court.Gap(value, 0, 0, value, value)):
            tell(court.is_verdict, system, verdict)
        tell(cuts.is_barring_cut, nets.Net(("x",), ((0, 1),), ((1, 1), (0, 0))), ((None, None),), value)
        tell(differences.way_arc, systems.System(("x",), (((1,), 0),)), value)
        tell(ranges.check_least, system, ((None, None),) * 2, (1, 1), value)
        tell(passes.passes, system, ((None, None),) * 2, value)
        tell(patterns.outer_rows, system, value)
        tell(rings.is_barring_ring, nets.Net(("x",), ((0, 0),), ((0, 0),)), (((1, 1), None),), value)
        tell(changed.made_one, system, "a", value)
        tell(closing.tight_point, system, value)
        for some in (value, limits.Rest(value, value, value), limits.NoRest(value), limits.NoRest(((value, value),) * 3)):
            tell(limits.is_limit, system, ((None, None),) * 2, some)
        tell(pairs.is_turning, systems.System(("x",), ()), value)
        tell(wholes.check_whole_box, system, value)
        tell(wholes.is_whole_gap, system, wholes.WholeGap(value, value, value, value, value))
        tell(counting.whole_at, system, ((0, 3), (0, 3)), value)
        tell(forget.choice_box, system, value)
        tell(forget.struck, system, value)
        tell(learning.is_outer, system, value)
        tell(learning.lesson, system, value)
        tell(checker.check_claim, value)
        tell(checker.check_claim, ("verdict", system, value))
        alive = live.Live(system, ((None, None),) * 2)
        tell(alive.put_end, value, value, value)
        tell(alive.put_end, "a", value, value)
        tell(alive.put_end, "a", 0, value)
        tell(alive.put_row, value)
        tell(alive.strike_row, value)
        if not isinstance(value, int) or value < 10:
            tell(wholes.whole_gap, system, value)


def tell_rows(dice, size):
    one, other = any_row(dice, size, 3, 4), any_row(dice, size, 3, 4)
    box, at = any_box(dice, size, 4), dice.below(size)
    for call in (systems.follows, systems.parting_point, eliminations.unlike, eliminations.clash):
        tell(call, one, other)
    tell(eliminations.eliminated, one, other, at)
    for call in (bars.top, bars.bottom, bars.top_point, bars.bars_box, bars.narrowed):
        tell(call, one, box)
    tell(bars.told_by, one, box, at)
    tell(texts.show_row, NAMES[:size], one)


def tell_system(dice, size):
    system, box = any_system(dice, size, dice.between(0, 9), dice.pick((1, 3, 10 ** 6)), 4), any_box(dice, size, 4)
    row, numbers = any_row(dice, size, 2, 2), any_numbers(dice, len(system.rows), 5)
    for call in (webs.web, webs.web_ring, webs.sweep, eliminations.eliminations, texts.show_system,
                 equations.is_equal, equations.least_lots, boxes.free_box):
        tell(call, system)
    for call in (bars.barring, bars.told, bars.reasons, bars.crossing, papers.point_or_paper):
        tell(call, system, box)
    word, found = papers.point_or_paper(system, box)
    if word == "paper":
        tell(papers.shortened, system, box, found)
    tell(papers.combined, system, numbers)
    tell(papers.cancelled, system, numbers)
    tell(papers.plain_sum, system, row)
    tell(papers.ends_without, system, row)
    tell(systems.turned, system, "a")
    tell(systems.scaled, system, "a", (3, 2))
    tell(boxes.halves, box, 0, any_fraction(dice, 4))
    tell(fractions.simplest, *box[0])


def tell_equations_and_nets(dice, size):
    rows = tuple(any_row(dice, size, 2, 2) for _ in range(dice.between(0, 3)))
    tell(equations.equal_system, NAMES[:size], rows)
    system = equations.equal_system(NAMES[:size], rows)
    tell(equations.least_lots, system)
    tell(equations.least_equations, system)
    tell(equations.is_free, system, (0,))
    nodes = dice.between(1, 7)
    lines = tuple((dice.below(nodes), dice.below(nodes)) for _ in range(size))
    net = nets.Net(NAMES[:size], lines, tuple((-dice.below(3), dice.below(3)) for _ in range(nodes)))
    prices = tuple(any_fraction(dice, 3) for _ in range(nodes))
    tell(nets.flow_system, net)
    tell(nets.joined_parts, net, tuple(node for node in range(nodes) if dice.chance(1, 2)))
    tell(nets.cut_row, net, (0,), dice.below(2))
    tell(nets.price_row, net, prices)
    tell(nets.price_parts, prices)
    tell(nets.lacking, net, 0)
    tell(nets.shrunk, net, 0)


def tell_verdicts_and_blame(dice, size):
    system = any_system(dice, size, dice.between(0, 5), dice.pick((1, 2)), 3)
    box, end, value = any_box(dice, size, 3, 8), (dice.below(size), dice.below(2)), any_fraction(dice, 3)
    ends = boxes.box_ends(box)[1:]
    for call in (court.court, webrings.inexact_example, webrings.unfound_example, webrings.endless_example):
        tell(call, system)
    tell(changed.put_in, system, "a", value)
    tell(changed.doubled, system, "a", "g")
    tell(changed.made_one, system, "a", "b")
    tell(changed.lost_at, system, "a")
    for call in (blame.is_to_blame, blame.shrunk_blame):
        tell(call, system, box, ends)
    for call in (blame.all_blames, blame.all_loosenings, blame.row_blames):
        tell(call, system, box)
    tell(blame.is_forced, system, box, ends, end, value)
    for call in (blame.all_forcing, blame.row_forcing):
        tell(call, system, box, end, value)


def tell_cuts_and_differences(dice, size):
    net = any_net(dice)
    box = any_box(dice, len(net.names), 3, dice.between(1, 9))
    tell(cuts.flow_or_cut, net, box)
    tell(cuts.carried, net, box, 0)
    tell(cuts.least_flows, net)
    rows = []
    for _ in range(dice.between(0, 8)):
        one, other = dice.below(size + 1), dice.below(size + 1)
        if one != other:
            rows.append(differences.arc_row(size, (one, other, any_fraction(dice, 4))))
    system, box = systems.system_of(NAMES[:size], tuple(rows)), any_box(dice, size, 4, 5)
    for call in (differences.positive_ring, differences.longest_ways, differences.open_triple,
                 differences.closed_differences):
        tell(call, system)
    tell(differences.barring_way, system, box)
    tell(differences.least_difference, system, box, 0, size)


def tell_ranges_and_passes(dice, size):
    system = any_system(dice, size, dice.between(0, 5), 2, 2)
    box, coefficients = any_box(dice, size, 5, 6), tuple(dice.between(-2, 2) for _ in range(size))
    numbers = any_numbers(dice, len(system.rows), 3)
    tell(ranges.shown, system, box, coefficients, numbers)
    for call in (ranges.least_sum, ranges.row_bound, ranges.plain_bound):
        tell(call, system, box, coefficients)
    for call in (ranges.exact_ranges, ranges.inexact, passes.passed, passes.rests, passes.bounded_ends):
        tell(call, system, box)
    tell(passes.passes, system, box, 4)
    tell(passes.run, system, box, tuple(range(len(system.rows))) * 2)
    tell(passes.turned_top, any_row(dice, size, 2, 2), box, 0)
    tell(passes.center, box)
    tell(patterns.outer_rows, system, tuple(dice.between(-1, 1) for _ in range(size)))
    verdict = court.court(system)
    if isinstance(verdict, court.Single):
        tell(rewriting.rewritten, system, verdict, numbers)
        word, paper = papers.point_or_paper(system, box)
        if word == "paper":
            tell(rewriting.barring_row, system, verdict, box, paper)
    else:
        tell(rewriting.crossed_box, system, verdict)


def tell_rings_and_systems_together(dice):
    net = any_net(dice)
    size = len(net.names)
    point = tuple((dice.between(-1, 1), 1) for _ in range(size))
    tell(rings.all_rings, net)
    tell(rings.ring_parts, net, point)
    tell(rings.heights_or_ring, net, any_box(dice, size, 2, 9))
    tell(rings.least_rises, net)
    tell(rings.ring_or_cut, net, tuple(dice.between(-1, 2) for _ in range(size)), dice.below(size))
    one, other = (any_system(dice, 3, dice.between(0, 4), 2, 2) for _ in range(2))
    apart, glued = (systems.System(names, other.rows) for names in (("x", "y", "z"), ("c", "y", "z")))
    tell(together.side_by_side, one, apart)
    tell(together.name_parts, one)
    tell(together.glued, one, glued)
    tell(together.swept, (one, glued), any_box(dice, 5, 4, 7))


def tell_choices_and_closings(dice, size):
    system = any_system(dice, min(size, 4), dice.between(0, 5), 2, 2)
    size = len(system.names)
    box, order = any_box(dice, size, 3, 7), tuple(range(size))[::dice.pick((1, -1))]
    wishes = tuple(any_fraction(dice, 3) for _ in range(size))
    for call in (chosen.chosen, chosen.nearest_solution):
        tell(call, system, box, order, wishes)
    for call in (closing.needless, closing.trimmed, closing.rounds, closing.least_single, pairs.closed_pairs,
                 pairs.turning, wholes.rough, wholes.surely_whole, wholes.tightened):
        tell(call, system)
    tell(closing.with_row, system, any_row(dice, size, 2, 2))
    tell(closing.are_alike, system, any_system(dice, size, 3, 1, 1))
    tell(closing.parting_solution, system, any_system(dice, size, 3, 1, 1))
    tell(closing.tight_point, system, 0)
    for call in (limits.limit, limits.ending, wholes.whole_part):
        tell(call, system, box)
    tell(limits.is_limit, system, box, limits.limit(system, box))
    wide = tuple((low and low[0], high and low and low[0] + 3) for low, high in box)
    tell(wholes.whole_told, system, wide)
    tell(wholes.chosen_wholes, system, wide, order, tuple(value[0] for value in wishes))
    tell(wholes.rounded, wishes)
    tell(wholes.contrary, any_row(dice, size, 4, 4))
    tell(wholes.whole_gap, system, dice.below(2))


def tell_loosenings(dice, size):
    system, box = any_system(dice, size, dice.between(0, 6), 2, 3), any_box(dice, size, 2, 9)
    costs = {(at, side): dice.below(4) for at in range(size) for side in (0, 1) if dice.chance(5, 6)}
    for call in (loosening.cheapest_loosening, loosening.shared_costs, loosening.how_far, loosening.how_far_by_rows,
                 loosening.even_move, loosening.even_move_by_rows):
        tell(call, system, box, costs)
    tell(loosening.moved_box, box, {end: (cost, 3) for end, cost in costs.items() if cost % 3})


def tell_forgetting_and_mixing(dice, size):
    system = any_system(dice, min(size, 4), dice.between(0, 5), dice.pick((1, 2)), 2)
    size = len(system.names)
    names = tuple(name for name in system.names if dice.chance(1, 2))
    tell(forget.carried_on, system, tuple(any_fraction(dice, 2) if dice.chance(1, 2) else None for _ in range(size)))
    for call in (forget.stuck_choice, mixing.difference_hull, mixing.mixing_failure, mixing.median_failure,
                 learning.unlearned):
        tell(call, system)
    tell(forget.struck, system, names)
    tell(forget.forgotten, system, names)
    points = tuple(tuple(any_fraction(dice, 3) for _ in range(size)) for _ in range(3))
    tell(mixing.mixed, points[0], points[1], (1, 2))
    tell(mixing.median, *points)
    box = tuple(sorted((dice.between(-3, 3), dice.between(-3, 3))) for _ in range(size))
    box = tuple((low, high) for low, high in box)
    tell(counting.whole_count, system, box)
    tell(counting.whole_solutions, system, box)
    tell(counting.whole_at, system, box, dice.below(9))
    tell(counting.whole_below, system, box, (0,) * size)


def tell_learning_and_claims(dice, size):
    system = any_system(dice, min(size, 4), dice.between(0, 5), dice.pick((1, 2)), 2)
    size = len(system.names)
    box, order = any_box(dice, size, 3, 8), tuple(range(size))[::dice.pick((1, -1))]
    wishes = tuple(any_fraction(dice, 3) for _ in range(size))
    for row in system.rows[:2]:
        tell(learning.is_outer, system, row)
        tell(learning.lesson, system, row)
    tell(learning.learned_row, system, box)
    tell(learning.taught, system, box, order, wishes)
    claims = checker.gathered(system, box)
    tell(checker.gathered, system, box)
    tell(checker.concluded, system, any_box(dice, size, 3, 8), claims)
    alive = live.Live(system, box)
    for _ in range(12):
        at = dice.below(size)
        call, *values = dice.pick(((alive.put_end, system.names[at], dice.below(2), any_fraction(dice, 3)), (alive.undo,),
                                   (alive.put_row, any_row(dice, size, 1, 1)), (alive.strike_row, dice.below(4)),
                                   (alive.learn,), (alive.solve, order, wishes)))
        tell(call, *values)
        for call in (alive.changes, alive.given, alive.ends_now, alive.learned, alive.present, alive.steps_back):
            tell(call)


def main():
    tell_values()
    dice = Dice(7)
    for _ in range(200):
        size = dice.between(1, 6)
        tell_rows(dice, size)
        tell_system(dice, size)
        tell_equations_and_nets(dice, size)
        tell_verdicts_and_blame(dice, size)
        tell_cuts_and_differences(dice, size)
        tell_ranges_and_passes(dice, size)
        tell_rings_and_systems_together(dice)
        tell_choices_and_closings(dice, size)
        tell_loosenings(dice, size)
        tell_forgetting_and_mixing(dice, size)
        tell_learning_and_claims(dice, size)


if __name__ == "__main__":
    main()
