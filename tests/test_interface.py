"""The interface: names, parameters and defaults, and in which file each is defined."""

import ast
import importlib
import inspect
import os
import unittest

from rowalone.live import Live
from rowalone.systems import System

FOLDER = os.path.join(os.path.dirname(os.path.dirname(os.path.abspath(__file__))), "rowalone")
FUNCTIONS = {
    "fractions": """fraction_of(top, bottom); is_fraction(value); plus(one, other); minus(one, other);
        times(one, other); ratio(one, other); less(one, other); least_of(some); greatest_of(some);
        simplest(low, high); weighed(coefficients, point)""",
    "webs": "web(system); web_ring(system); is_web_ring(system, value); sweep(system)",
    "boxes": """check_box(system, value); check_point(system, value); free_box(system); point_box(point);
        in_box(point, box); within(box, other); common_box(box, other); joined_box(box, other); box_ends(box);
        only_ends(box, ends); placed(box, at, value); halves(box, at, value)""",
    "systems": """least_form(coefficients, bound); row_of(coefficients, bound); follows(one, other);
        parting_point(one, other); system_of(names, rows); renamed(system, names); turned(system, name);
        scaled(system, name, factor)""",
    "bars": """row_sum(row, point); keeps(row, point); holds(system, point); top(row, box); bottom(row, box);
        top_point(row, box); bars_box(row, box); used_ends(row); barring(system, box); told_by(row, box, at);
        narrowed(row, box); told(system, box); reasons(system, box); crossing(system, box)""",
    "eliminations": "unlike(one, other); eliminated(one, other, at); clash(one, other); eliminations(system)",
    "equations": """is_equal(system); equal_system(names, rows); least_lots(system); least_equations(system);
        is_free(system, lot)""",
    "nets": """gains(net, point); is_flow(net, box, value); flow_system(net); joined_parts(net, some);
        cut_row(net, some, side); price_row(net, prices); price_parts(prices); lacking(net, at); shrunk(net, at)""",
    "papers": """check_combination(system, value); combined(system, numbers); cancelled(system, numbers);
        check_paper(system, box, value); point_or_paper(system, box); shortened(system, box, paper);
        plain_sum(system, row); check_plain(system, row, value); ends_without(system, row)""",
    "texts": "read_system(text, names=()); show_row(names, row); show_system(system)",
    "webrings": "inexact_example(system); unfound_example(system); endless_example(system)",
    "blame": """is_to_blame(system, box, ends); shrunk_blame(system, box, ends); all_blames(system, box);
        all_loosenings(system, box); least_hits(lots); row_blames(system, box);
        is_forced(system, box, ends, end, value); all_forcing(system, box, end, value);
        row_forcing(system, box, end, value)""",
    "changed": "put_in(system, name, value); doubled(system, name, other); made_one(system, name, other); "
               "lost_at(system, name)",
    "court": "court(system); is_single(system); is_verdict(system, value)",
    "cuts": "flow_or_cut(net, box); is_barring_cut(net, box, value); carried(net, box, at); least_flows(net)",
    "differences": """arc_of(row); arc_row(size, arc); way_arc(system, way); positive_ring(system);
        longest_ways(system); barring_way(system, box); open_triple(system); closed_differences(system);
        least_difference(system, box, one, other)""",
    "passes": """passed(system, box); passes(system, box, most); run(system, box, numbers); rests(system, box);
        turned_top(row, box, at); center(box); bounded_ends(system, box)""",
    "patterns": "outer_rows(system, signs)",
    "ranges": """shown(system, box, coefficients, numbers); least_sum(system, box, coefficients);
        check_least(system, box, coefficients, value); exact_ranges(system, box); inexact(system, box);
        row_bound(system, box, coefficients); plain_bound(system, box, coefficients)""",
    "rewriting": """rewritten(system, single, numbers); barring_row(system, single, box, paper);
        crossed_box(system, gap)""",
    "rings": """all_rings(net); ring_parts(net, point); heights_or_ring(net, box); is_barring_ring(net, box, value);
        least_rises(net); ring_or_cut(net, ways, at)""",
    "together": "side_by_side(one, other); name_parts(system); glued(one, other); swept(systems, box)",
    "chosen": "chosen(system, box, order, wishes); nearest_solution(system, box, order, wishes)",
    "closing": """least_single(system); parting_solution(one, other); are_alike(one, other); needless(system);
        trimmed(system); rounds(system); with_row(system, row); tight_point(system, at)""",
    "limits": "limit(system, box); is_limit(system, box, value); ending(system, box)",
    "loosening": """cheapest_loosening(system, box, costs); shared_costs(system, box, costs); moved_box(box, moves);
        how_far(system, box, costs); how_far_by_rows(system, box, costs); even_move(system, box, weights);
        even_move_by_rows(system, box, weights)""",
    "pairs": "closed_pairs(system); turning(system); is_turning(system, value)",
    "wholes": """check_whole_box(system, value); fraction_box(box); whole_part(system, box); rounded(point);
        tight_row(row); contrary(row); tightened(system); whole_told(system, box);
        chosen_wholes(system, box, order, wishes); is_whole_gap(system, value); rough(system); surely_whole(system);
        whole_gap(system, size)""",
    "counting": """whole_count(system, box); whole_solutions(system, box); whole_at(system, box, index);
        whole_below(system, box, point)""",
    "forget": """choice_box(system, choice); carried_on(system, choice); stuck_choice(system); struck(system, names);
        forgotten(system, names)""",
    "learning": """unlearned(system); is_outer(system, row); learned_row(system, box); lesson(system, row);
        taught(system, box, order, wishes)""",
    "mixing": """difference_hull(system); mixed(point, other, shift); mixing_failure(system); median(one, two, three);
        median_failure(system)""",
    "checker": "claim_words(); check_claim(claim); concluded(system, box, claims); gathered(system, box)",
}
CLASSES = {
    "errors": {"InvalidSystem": "(at)", "InvalidText": "(at)", "InvalidBox": "(at)", "InvalidPoint": "(at)",
               "InvalidPaper": "(at)", "InvalidNumber": "(word)", "Refused": "(word)"},
    "systems": {"System": "(names, rows)"},
    "nets": {"Net": "(names, lines, needs)"},
    "court": {"Single": "(sums)", "Gap": "(one, other, at, box, paper)"},
    "chosen": {"Stuck": "(box, at, one, other)"},
    "limits": {"Rest": "(box, rows, weights)", "NoRest": "(numbers)"},
    "wholes": {"WholeGap": "(one, other, at, value, box)"},
    "live": {"Live": "(system, box)"},
}
METHODS = {"put_end": "(self, name, side, value)", "put_row": "(self, row)", "strike_row": "(self, number)",
           "undo": "(self)", "changes": "(self)", "given": "(self)", "ends_now": "(self)", "learned": "(self)",
           "present": "(self)", "learn": "(self)", "solve": "(self, order, wishes)", "steps_back": "(self)"}


class Interface(unittest.TestCase):

    def defined(self, module):
        """The names of the functions and classes that a file defines at module level."""
        with open(os.path.join(FOLDER, module + ".py"), encoding="utf-8") as file:
            tree = ast.parse(file.read())
        return {node.name for node in tree.body if isinstance(node, (ast.FunctionDef, ast.ClassDef))}

    def test_functions(self):
        for module, line in FUNCTIONS.items():
            for call in line.split(";"):
                name, _, parameters = call.strip().partition("(")
                function = getattr(importlib.import_module("rowalone." + module), name)
                self.assertIn(name, self.defined(module))
                self.assertEqual(str(inspect.signature(function)), "(" + parameters)

    def test_classes(self):
        for module, classes in CLASSES.items():
            for name, parameters in classes.items():
                kind = getattr(importlib.import_module("rowalone." + module), name)
                self.assertIn(name, self.defined(module))
                self.assertEqual(str(inspect.signature(kind)), parameters)
                self.assertIn("__init__", vars(kind))
        self.assertIn("RowError", self.defined("errors"))

    def test_methods_of_a_live(self):
        for name, parameters in METHODS.items():
            self.assertEqual(str(inspect.signature(vars(Live)[name])), parameters)

    def test_no_class_is_derived_from_another_one(self):
        for name in sorted(os.listdir(FOLDER)):
            if name.endswith(".py") and name != "errors.py":
                with open(os.path.join(FOLDER, name), encoding="utf-8") as file:
                    for node in ast.walk(ast.parse(file.read())):
                        self.assertFalse(isinstance(node, ast.ClassDef) and node.bases)

    def test_equality_is_the_class_own(self):
        self.assertIn("__eq__", vars(System))


if __name__ == "__main__":
    unittest.main()
