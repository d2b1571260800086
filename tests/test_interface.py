"""The section "The interface": names, parameters, and in which file each stands."""

import importlib
import inspect
import pathlib
import re
import unittest

DOC = pathlib.Path(__file__).resolve().parent.parent.parent / "shared" / "DOC.md"
FUNCTIONS = {
    "reading": "is_ahead(page, one, other) between(page, one, other) reading(page) text_of(page) unordered(page) "
               "ring(page) is_ring(page, thing) gone(page)",
    "rows": "rows_of(page) how_many_rows(page) is_row(page, thing) page_of_rows(lines, rows) "
            "all_between(lines, rows) seen(page)",
    "pagetexts": "write_page(page) read_page(text)",
    "lots": "page_of(lot) burials_at(lot, line)",
    "needs": "sent_to(one, other) least_with(lot, names) greatest_without(lot, names) needs_chain(lot, one, other) "
             "is_needs_chain(lot, one, other, thing) rounds_of(lot) longest_needs(lot)",
    "histories": "histories(lot) how_many_histories(lot) is_history(lot, thing) parts_of(lot) how_many_parts(lot) "
                 "least_alike(lot)",
    "lottexts": "write_lot(lot) read_lot(text)",
    "places": "is_change(thing) made_by(text, change) turned_back(change) passed(one, two) side_by_side(one, two)",
    "runs": "text_behind(text, run) passed_at(text, run, index) all_leads(text, run) stuck_pairs(text, run) "
            "led_to(text, run, names) fewest_passes(text, run, names) put_beside(text, run, other)",
    "crossing": "lot_of_run(ground, text, run) run_of_lot(ground, lot, names)",
    "bares": "bare_of(page) put_together(bare, classes)",
    "maps": "is_map(one, other, thing) maps(one, other) likeness(one, other) parted_by(one, other)",
    "gluing": "is_landing(span, thing) glued(span) through(span, thing) is_glue(span, thing) shared(corner)",
    "overtexts": "texts_over(span) clash_over(span)",
    "clashes": "knots(page) clashes(page) new_clashes(one, other) lost_lines(lot) lost_ring(lot, line) "
               "keeping_patch(lot, name)",
    "turning": "least_turning(lot) greatest_straight(lot) least_ordering(lot, one, other) "
               "greatest_unordered(lot, one, other)",
    "readable": "readable_parts(lot) least_unreadable(lot) greatest_readable(lot) odd_pairs(lot) "
                "least_ends(lot, names, clash)",
    "smooth": "smooth_history(lot) stuck_parts(lot) is_stuck(lot, thing)",
    "settling": "with_orders(page, orders) with_buried(page, lines) settles(page, orders, lines) jumps(page, row) "
                "fewest_orders(page) cheapest_settlement(page, price) turned_pairs(page, one, other)",
    "stays": "ring_through(page, line) stayers(page) longest_stay(page) fewest_buried(page) is_stay(page, thing) "
             "stay_levels(page) is_levelling(page, thing) always_stay(page) sometimes_stay(page)",
    "columns": "richest_stay(page, worths) worth_cover(page, worths) is_worth_cover(page, worths, thing) "
               "columns(page) scattered(page) are_columns(page, thing) is_scattered(page, thing)",
    "commonrows": "common_row(one, other) is_common_row(one, other, thing) least_cover(one, other) "
                  "is_cover(one, other, thing) many_common_rows(one, other) matches_in_all(one, other) "
                  "matches_in_some(one, other) surely_kept(one, other) surely_taken(one, other)",
    "differences": "is_difference(text, thing) cut_text(text, cuts) difference(one, other) "
                   "turned_round(text, cuts) patch_to(lot, text, name)",
    "threetexts": "gaps(base, one, other, left, right) merged(base, one, other, left, right) "
                  "merge_somehow(base, one, other) clash_somehow(base, one, other) all_merged(base, one, other)",
    "trees": "paths_of(tree) troubles(tree)",
    "treedeeds": "deed_done(tree, name, steps) least_clashes(tree, deeds)",
    "moves": "fewest_moves(tree) claims(tree) are_claims(tree, thing)",
    "inverses": "taken_out(lot, name) inverse_of(patch, called) with_inverse(lot, name, called) "
                "apart_now(lot, name, called) apart_later(lot, name, called) shows_later(lot, name, called, thing)",
    "pieces": "items_of(patch) pieces_of(patch) is_parting(patch, thing) held_by(patch, one, other) "
              "is_held(patch, one, other, thing) in_pieces(lot, name, called)",
    "joined": "joined_lot(lot, names, called) between_chain(lot, names)",
    "origins": "story_of(lot, line) ahead_by(lot, one, other) dead_by(lot, line) tried_parts(lot)",
    "searching": "possible_ones(suspects, askings, answers, lies=0) never_parted(suspects, askings) "
                 "is_search(suspects, askings, thing, lies=0) fewest_askings(suspects, askings, lies=0) "
                 "search(suspects, askings, lies=0) ask_next(suspects, askings, answers, lies=0)",
    "against": "answers_against(suspects, askings, many, lies=0) are_against(suspects, askings, many, thing, lies=0)",
    "hands": "comes_to(hands, name) enough_pulls(hands)",
    "coming": "can_live(hands, line) can_die(hands, name, line) can_fail(hands, name)",
    "forgetting": "why_kept(hands, name, line) forgettable(hands, name) page_without(page, lines)",
    "later": "shared_lines(one, other) is_company(one, other, thing) both_read(one, other, more) "
             "told_apart(one, other) parting_company(one, other) kept_page(page, lines)",
    "housetexts": "write_house(house) read_house(text)",
}
CLASSES = {
    ("pages", "Page"): "__init__(self, lines, orders, dead) lines(self) orders(self) dead(self) live(self) "
                       "is_within(self, other) of_lines(self, lines) __or__(self, other) __eq__(self, other)",
    ("patches", "Patch"): "__init__(self, name, texts, orders=(), burials=(), backs=()) called(self) texts(self) "
                          "own_lines(self) orders(self) burials(self) backs(self) needs(self) __eq__(self, other)",
    ("lots", "Lot"): "__init__(self, patches) names(self) patch_of(self, name) is_part(self, other) "
                     "__contains__(self, name) __len__(self) __or__(self, other) __and__(self, other) "
                     "__eq__(self, other)",
    ("bares", "Bare"): "__init__(self, told, arrows, dead) told_words(self) arrows(self) dead_points(self) "
                       "aheads(self) __len__(self) __eq__(self, other)",
    ("trees", "FileTree"): "__init__(self, entries, placings, dead) entries(self) placings(self) dead(self) "
                           "alive(self) places_of(self, entry) __or__(self, other) __eq__(self, other)",
    ("hands", "Hands"): "__init__(self, kept) lots_told(self) whole_lot(self) behind_pulls(self, pulls) "
                        "__eq__(self, other)",
    ("houses", "House"): "__init__(self) do(self, deed) hands(self) marks(self) lot_at(self, hand) text_at(self, hand) "
                         "clashes_at(self, hand) who_has(self, name) news(self, hand, other) would(self, hand, other) "
                         "together(self, hands) calm_turns(self, hand, others) stuck_turns(self, hand, others) "
                         "count(self) undo(self) again(self) deeds(self) at(self, number) trial(self, work) copy(self) "
                         "__eq__(self, other)",
}


def rows_in(text):
    return [row + ")" for row in text.replace("()", "<>").split(")") if row.strip()]


class Interface(unittest.TestCase):
    def check(self, holder, text, module):
        for row in rows_in(text):
            name, parameters = row.strip().replace("<>", "()").split("(", 1)
            thing = vars(holder)[name]
            self.assertTrue(inspect.isfunction(thing), name)
            self.assertEqual(thing.__module__, module)
            self.assertEqual(str(inspect.signature(thing)), "(" + parameters, name)

    def test_functions(self):
        for name, text in FUNCTIONS.items():
            module = f"patchlots.{name}"
            self.check(importlib.import_module(module), text, module)

    def test_classes(self):
        for (name, called), text in CLASSES.items():
            module = f"patchlots.{name}"
            made = getattr(importlib.import_module(module), called)
            self.assertEqual(made.__module__, module)
            self.assertEqual(made.__bases__, (object,))
            self.check(made, text, module)

    def test_nothing_of_the_interface_lacks(self):
        """The tables above tell all that the document's section lists, where the document is there."""
        if not DOC.exists():
            self.skipTest("no document beside the project")
        text = DOC.read_text(encoding="utf-8").split("# The interface")[1]
        told = set(re.findall(r"`patchlots/(\w+)\.py`", text)) - {"errors"}
        self.assertEqual(told, set(FUNCTIONS) | {name for name, _ in CLASSES})
        for row in text.split("\n- ")[2:]:
            name = re.match(r"`patchlots/(\w+)\.py`", row).group(1)
            known = " ".join([FUNCTIONS.get(name, "")] + [told for (file, _), told in CLASSES.items() if file == name])
            listed = re.findall(r"`([a-z_]+\([^`]*\))`", row)
            self.assertNotEqual(listed, [], name)
            for call in listed:
                method = call.replace("(", "(self, ").replace("(self, )", "(self)")
                self.assertTrue(call in known or method in known, call)

    def test_the_package_binds_no_names(self):
        package = importlib.import_module("patchlots")
        own = [name for name, thing in vars(package).items() if not name.startswith("__") and not inspect.ismodule(thing)]
        self.assertEqual(own, [])


if __name__ == "__main__":
    unittest.main()
