"""The section "The interface": names, parameters, and in which file each stands; point 3 by names."""

import importlib
import inspect
import unittest

from patchlots.bares import Bare, bare_of, put_together
from patchlots.crossing import lot_of_run, run_of_lot
from patchlots.histories import how_many_histories, how_many_parts, is_history, least_alike
from patchlots.lots import Lot
from patchlots.lottexts import read_lot, write_lot
from patchlots.needs import longest_needs, rounds_of
from patchlots.pages import Page
from patchlots.places import is_change, made_by, turned_back
from patchlots.reading import gone, reading, ring, text_of, unordered
from patchlots.rows import how_many_rows, rows_of, seen
from patchlots.runs import all_leads, stuck_pairs, text_behind
from tests.helping import A, B, C, D, exact

FUNCTIONS = {
    "reading": "is_ahead(page, one, other) between(page, one, other) reading(page) text_of(page) unordered(page) "
               "ring(page) is_ring(page, thing) gone(page)",
    "rows": "rows_of(page) how_many_rows(page) is_row(page, thing) page_of_rows(lines, rows) "
            "all_between(lines, rows) seen(page)",
    "pagetexts": "write_page(page) read_page(text)",
    "lots": "page_of(lot) burials_at(lot, line)",
    "needs": "sent_to(one, other) least_with(lot, names) greatest_without(lot, names) needs_chain(lot, one, other) "
             "is_needs_chain(lot, one, other, thing) rounds_of(lot) longest_needs(lot)",
    "histories": "histories(lot) how_many_histories(lot) is_history(lot, thing) parts_of(lot) how_many_parts(lot) "
                 "least_alike(lot)",
    "lottexts": "write_lot(lot) read_lot(text)",
    "places": "is_change(thing) made_by(text, change) turned_back(change) passed(one, two) side_by_side(one, two)",
    "runs": "text_behind(text, run) passed_at(text, run, index) all_leads(text, run) stuck_pairs(text, run) "
            "led_to(text, run, names) fewest_passes(text, run, names) put_beside(text, run, other)",
    "crossing": "lot_of_run(ground, text, run) run_of_lot(ground, lot, names)",
    "bares": "bare_of(page) put_together(bare, classes)",
    "maps": "is_map(one, other, thing) maps(one, other) likeness(one, other) parted_by(one, other)",
    "gluing": "is_landing(span, thing) glued(span) through(span, thing) is_glue(span, thing) shared(corner)",
    "overtexts": "texts_over(span) clash_over(span)",
    "clashes": "knots(page) clashes(page) new_clashes(one, other) lost_lines(lot) lost_ring(lot, line) "
               "keeping_patch(lot, name)",
    "turning": "least_turning(lot) greatest_straight(lot) least_ordering(lot, one, other) "
               "greatest_unordered(lot, one, other)",
    "readable": "readable_parts(lot) least_unreadable(lot) greatest_readable(lot) odd_pairs(lot) "
                "least_ends(lot, names, clash)",
    "smooth": "smooth_history(lot) stuck_parts(lot) is_stuck(lot, thing)",
    "settling": "with_orders(page, orders) with_buried(page, lines) settles(page, orders, lines) jumps(page, row) "
                "fewest_orders(page) cheapest_settlement(page, price) turned_pairs(page, one, other)",
    "stays": "ring_through(page, line) stayers(page) longest_stay(page) fewest_buried(page) is_stay(page, thing) "
             "stay_levels(page) is_levelling(page, thing) always_stay(page) sometimes_stay(page)",
    "columns": "richest_stay(page, worths) worth_cover(page, worths) is_worth_cover(page, worths, thing) "
               "columns(page) scattered(page) are_columns(page, thing) is_scattered(page, thing)",
    "commonrows": "common_row(one, other) is_common_row(one, other, thing) least_cover(one, other) "
                  "is_cover(one, other, thing) many_common_rows(one, other) matches_in_all(one, other) "
                  "matches_in_some(one, other) surely_kept(one, other) surely_taken(one, other)",
    "differences": "is_difference(text, thing) cut_text(text, cuts) difference(one, other) "
                   "turned_round(text, cuts) patch_to(lot, text, name)",
    "threetexts": "gaps(base, one, other, left, right) merged(base, one, other, left, right) "
                  "merge_somehow(base, one, other) clash_somehow(base, one, other) all_merged(base, one, other)",
    "trees": "paths_of(tree) troubles(tree)",
}
CLASSES = {
    ("pages", "Page"): "__init__(self, lines, orders, dead) lines(self) orders(self) dead(self) live(self) "
                       "is_within(self, other) of_lines(self, lines) __or__(self, other) __eq__(self, other)",
    ("patches", "Patch"): "__init__(self, name, texts, orders=(), burials=(), backs=()) called(self) texts(self) "
                          "own_lines(self) orders(self) burials(self) backs(self) needs(self) __eq__(self, other)",
    ("lots", "Lot"): "__init__(self, patches) names(self) patch_of(self, name) is_part(self, other) "
                     "__contains__(self, name) __len__(self) __or__(self, other) __and__(self, other) "
                     "__eq__(self, other)",
    ("bares", "Bare"): "__init__(self, told, arrows, dead) told_words(self) arrows(self) dead_points(self) "
                       "aheads(self) __len__(self) __eq__(self, other)",
    ("trees", "FileTree"): "__init__(self, entries, placings, dead) entries(self) placings(self) dead(self) "
                           "alive(self) places_of(self, entry) __or__(self, other) __eq__(self, other)",
}


def rows_in(text):
    return [row + ")" for row in text.replace("()", "<>").split(")") if row.strip()]


class Interface(unittest.TestCase):
    def check(self, holder, text, module):
        for row in rows_in(text):
            name, parameters = row.strip().replace("<>", "()").split("(", 1)
            thing = vars(holder)[name]
            self.assertTrue(inspect.isfunction(thing), name)
            self.assertEqual(thing.__module__, module)
            self.assertEqual(str(inspect.signature(thing)), "(" + parameters, name)

    def test_functions(self):
        for name, text in FUNCTIONS.items():
            module = f"patchlots.{name}"
            self.check(importlib.import_module(module), text, module)

    def test_classes(self):
        for (name, called), text in CLASSES.items():
            module = f"patchlots.{name}"
            made = getattr(importlib.import_module(module), called)
            self.assertEqual(made.__module__, module)
            self.assertEqual(made.__bases__, (object,))
            self.check(made, text, module)

    def test_the_package_binds_no_names(self):
        package = importlib.import_module("patchlots")
        own = [name for name, thing in vars(package).items() if not name.startswith("__") and not inspect.ismodule(thing)]
        self.assertEqual(own, [])

    def test_by_names_as_by_position(self):
        lot = Lot([A, B, C, D])
        page = Page({("a", 0): "x", ("b", 0): "y"}, [(("a", 0), ("b", 0)), (("b", 0), ("a", 0))], [("b", 0)])
        for call in (reading, text_of, unordered, ring, gone, rows_of, how_many_rows, seen, bare_of):
            self.assertTrue(exact(call(page=page), call(page)))
        for call in (rounds_of, longest_needs, how_many_histories, how_many_parts, least_alike, write_lot):
            self.assertTrue(exact(call(lot=lot), call(lot)))
        self.assertEqual(read_lot(text=write_lot(lot)), lot)
        self.assertIs(is_history(lot=lot, thing=("a", "b", "c", "d")), True)
        change, run = (0, ["a"], ["b"]), [("p", (0, ["a"], ["b"]))]
        self.assertIs(is_change(thing=change), True)
        self.assertEqual(turned_back(change=change), (0, ["b"], ["a"]))
        self.assertEqual(made_by(text=["a"], change=change), ["b"])
        for call in (text_behind, all_leads, stuck_pairs):
            self.assertTrue(exact(call(run=run, text=["a"]), call(["a"], run)))
        made = lot_of_run(ground="g", text=["a"], run=run)
        self.assertEqual(run_of_lot(ground="g", lot=made, names=["p"]), run)
        self.assertEqual(put_together(bare=Bare(told=["x"], arrows=[], dead=[]), classes=[0]), Bare(["x"], [], []))


if __name__ == "__main__":
    unittest.main()
