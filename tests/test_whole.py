"""Over the whole program: point 3 of all functions and methods, hands until all have all, houses that go on."""

import importlib
import inspect
import unittest

from patchlots.bares import Bare
from patchlots.hands import Hands
from patchlots.houses import House
from patchlots.housetexts import read_house, write_house
from patchlots.lots import Lot, page_of
from patchlots.pages import Page
from patchlots.patches import Patch
from patchlots.trees import FileTree
from tests.helping import A, B, C, D, as_lists, as_tuples, exact, seeds
from tests.test_interface import CLASSES, FUNCTIONS, rows_in

A0, A1, B0, C0 = ("a", 0), ("a", 1), ("b", 0), ("c", 0)
LINES = {A0: "x", A1: "y", B0: "m"}
PAGE = Page(LINES, [(A0, A1), (A0, B0), (B0, A1)], [B0])
LOOSE = Page(LINES, [(A0, A1)], [])
RING = Page(LINES, [(A0, A1), (A1, A0)], [B0])
LOT = Lot([A, B, C, D])
TREE = FileTree({A0: "directory", B0: "file"}, {("m", 0): (A0, (None, "a"), []), ("m", 1): (B0, (A0, "b"), [])}, [])
BARE = Bare(["a", "c"], [(0, 1)], [])
ONE = Bare(["a", "x", "c"], [(0, 1), (1, 2)], [])
SPAN = [BARE, ONE, ONE, (0, 2), (0, 2)]
TEXT, RUN = ["a", "b", "c"], [("p", (0, ["a"], ["x"])), ("q", (2, ["c"], []))]
ORDER = Patch("e", [], [(A0, A1)])
BOTH = Lot([Patch("a", ["x", "y"]), ORDER])
HANDS = Hands({"h": Lot([A, C]), "k": LOT})
SUSPECTS, ASKINGS = ["a", "b", "c"], [["a"], ["b"]]
DEEDS = [("come", "h"), ("record", "h", A), ("come", "k"), ("fetch", "k", "h", ("a",)), ("record", "k", B), ("mark", "m", "h")]


def house():
    made = House()
    for deed in DEEDS:
        made.do(deed)
    made.undo()
    return made


# What each function is called with, by place.
CALLS = {
    "is_ahead": [PAGE, A0, A1], "between": [PAGE, A0, A1], "reading": [PAGE], "text_of": [PAGE], "unordered": [LOOSE], "ring": [RING],
    "is_ring": [RING, [A0, A1]], "gone": [PAGE], "rows_of": [LOOSE], "how_many_rows": [LOOSE], "is_row": [LOOSE, [A0, A1, B0]],
    "page_of_rows": [LINES, [[A0, A1, B0]]], "all_between": [LINES, [[A0, A1, B0]]], "seen": [PAGE], "write_page": [PAGE],
    "read_page": ["line a.0 x\n"], "page_of": [LOT], "burials_at": [LOT, A0], "sent_to": [Lot([A]), LOT], "least_with": [LOT, ["b"]],
    "greatest_without": [LOT, ["c"]], "needs_chain": [LOT, "d", "a"], "is_needs_chain": [LOT, "d", "a", ["d", "a"]], "rounds_of": [LOT],
    "longest_needs": [LOT], "histories": [LOT], "how_many_histories": [LOT], "is_history": [LOT, ["a", "b", "c", "d"]], "parts_of": [LOT],
    "how_many_parts": [LOT], "least_alike": [LOT], "write_lot": [LOT], "read_lot": ["patch a\nsays x\n"], "is_change": [(0, ["a"], ["b"])],
    "made_by": [TEXT, (0, ["a"], ["b"])], "turned_back": [(0, ["a"], ["b", "c"])], "passed": [(0, ["a"], ["x", "y"]), (3, ["c"], [])],
    "side_by_side": [(0, ["a"], ["x", "y"]), (2, ["c"], [])], "text_behind": [TEXT, RUN], "passed_at": [TEXT, RUN, 0], "all_leads": [TEXT, RUN],
    "stuck_pairs": [TEXT, RUN], "led_to": [TEXT, RUN, ["q", "p"]], "fewest_passes": [TEXT, RUN, ["q", "p"]],
    "put_beside": [TEXT, RUN[:1], [("r", (2, ["c"], ["d"]))]], "lot_of_run": ["g", TEXT, RUN], "bare_of": [PAGE],
    "put_together": [Bare(["x", "x"], [(0, 1)], []), [0, 0]], "is_map": [BARE, ONE, (0, 2)], "maps": [BARE, ONE], "likeness": [ONE, ONE],
    "parted_by": [BARE, ONE], "is_landing": [SPAN, [ONE, (0, 1, 2), (0, 1, 2)]], "glued": [SPAN], "through": [SPAN, [ONE, (0, 1, 2), (0, 1, 2)]],
    "is_glue": [SPAN, [ONE, (0, 1, 2), (0, 1, 2)]], "shared": [[ONE, BARE, ONE, (0, 2), (0, 1, 2)]], "texts_over": [SPAN], "clash_over": [SPAN],
    "knots": [RING], "clashes": [RING], "new_clashes": [Lot([A]), Lot([Patch("q", ["z"])])], "lost_lines": [LOT], "lost_ring": [LOT, A0],
    "keeping_patch": [BOTH, "k"], "least_turning": [LOT], "greatest_straight": [LOT], "least_ordering": [LOT, A0, B0],
    "greatest_unordered": [LOT, A0, B0], "readable_parts": [BOTH], "least_unreadable": [BOTH], "greatest_readable": [BOTH], "odd_pairs": [BOTH],
    "least_ends": [BOTH, ["a"], ("apart", A0, A1)], "smooth_history": [LOT], "stuck_parts": [BOTH], "is_stuck": [BOTH, [[]]],
    "with_orders": [LOOSE, [(A1, B0)]], "with_buried": [LOOSE, [B0]], "settles": [LOOSE, [(A1, B0)], []], "jumps": [LOOSE, [A0, A1, B0]],
    "fewest_orders": [LOOSE], "cheapest_settlement": [LOOSE, 2], "turned_pairs": [Page(LINES, [], [B0]), [(A0, A1)], [(A1, A0)]],
    "ring_through": [RING, A0], "stayers": [RING], "longest_stay": [LOOSE], "fewest_buried": [LOOSE], "is_stay": [LOOSE, [A0, A1]],
    "stay_levels": [LOOSE], "is_levelling": [LOOSE, [[A0, B0], [A1]]], "always_stay": [LOOSE], "sometimes_stay": [LOOSE],
    "richest_stay": [LOOSE, {A0: 1, A1: 2, B0: 4}], "worth_cover": [LOOSE, {A0: 1, A1: 2, B0: 4}],
    "is_worth_cover": [LOOSE, {A0: 1, A1: 1, B0: 1}, [(1, [A0, B0]), (1, [A1])]], "columns": [LOOSE], "scattered": [LOOSE],
    "are_columns": [LOOSE, [[A0, A1], [B0]]], "is_scattered": [LOOSE, [A0, B0]], "common_row": [TEXT, ["b", "c"]],
    "is_common_row": [TEXT, ["b", "c"], [(1, 0), (2, 1)]], "least_cover": [TEXT, ["b", "c"]], "is_cover": [TEXT, ["b", "c"], [[(1, 0)], [(2, 1)]]],
    "many_common_rows": [TEXT, ["b", "c"]], "matches_in_all": [TEXT, ["b", "c"]], "matches_in_some": [TEXT, ["b", "c"]],
    "surely_kept": [TEXT, ["b", "c"]], "surely_taken": [TEXT, ["b", "c"]], "is_difference": [TEXT, [(0, 1, ["x"])]],
    "cut_text": [TEXT, [(0, 1, ["x"])]], "difference": [TEXT, ["b", "x", "c"]], "turned_round": [TEXT, [(0, 1, ["x"])]],
    "patch_to": [LOT, ["x", "z"], "k"], "gaps": [TEXT, ["a", "c"], TEXT, [(0, 0), (2, 1)], [(0, 0), (1, 1), (2, 2)]],
    "merged": [TEXT, ["a", "c"], TEXT, [(0, 0), (2, 1)], [(0, 0), (1, 1), (2, 2)]], "merge_somehow": [TEXT, ["a", "c"], TEXT + ["d"]],
    "clash_somehow": [TEXT, ["a", "x", "c"], ["a", "y", "c"]], "all_merged": [TEXT, ["a", "c"], TEXT + ["d"]], "paths_of": [TREE], "troubles": [TREE],
    "deed_done": [TREE, "x", [("move", B0, (None, "b"))]], "least_clashes": [TREE, {"x": [("move", B0, (None, "b"))], "y": [("move", B0, (None, "c"))]}],
    "fewest_moves": [TREE], "claims": [FileTree({A0: "directory"}, {("m", 0): (A0, (A0, "a"), [])}, [])],
    "are_claims": [FileTree({A0: "directory"}, {("m", 0): (A0, (A0, "a"), [])}, []), [([A0], 1)]], "taken_out": [LOT, "d"], "inverse_of": [A, "z"],
    "with_inverse": [LOT, "d", "z"], "apart_now": [BOTH, "e", "z"], "apart_later": [BOTH, "e", "z"], "shows_later": [BOTH, "e", "z", Patch("w", [])],
    "items_of": [B], "pieces_of": [B], "is_parting": [C, [[("bury", A0)]]], "held_by": [B, ("order", A0, B0), ("says", 0)],
    "is_held": [B, ("order", A0, B0), ("says", 0), [("order", A0, B0), ("says", 0)]], "in_pieces": [LOT, "c", ["q"]],
    "joined_lot": [LOT, ["a", "b"], "k"], "between_chain": [LOT, ["a", "d"]], "story_of": [LOT, A0], "ahead_by": [LOT, A0, A1],
    "dead_by": [LOT, A0], "tried_parts": [BOTH], "possible_ones": [SUSPECTS, ASKINGS, [(0, False)], 0], "never_parted": [SUSPECTS, ASKINGS],
    "is_search": [SUSPECTS, ASKINGS, (0, "a", (1, "b", "c")), 0], "fewest_askings": [SUSPECTS, ASKINGS, 1], "search": [SUSPECTS, ASKINGS, 0],
    "ask_next": [SUSPECTS, ASKINGS, [(0, False)], 1], "answers_against": [SUSPECTS, ASKINGS, 1, 1],
    "are_against": [SUSPECTS, ASKINGS, 0, ("a", "b"), 1], "comes_to": [HANDS, "h"], "enough_pulls": [HANDS], "can_live": [HANDS, A0],
    "can_die": [HANDS, "h", A0], "can_fail": [HANDS, "h"], "why_kept": [HANDS, "h", A0], "forgettable": [HANDS, "h"], "page_without": [PAGE, [B0]],
    "shared_lines": [PAGE, RING], "is_company": [PAGE, RING, LOOSE], "both_read": [PAGE, RING, Page({A0: "x"}, [], [A0])],
    "told_apart": [PAGE, RING], "parting_company": [PAGE, RING], "kept_page": [PAGE, [A1, A0]], "write_house": [house()],
    "read_house": ["patch a\nhand h a\n"],
}
CALLS["run_of_lot"] = ["g", importlib.import_module("patchlots.crossing").lot_of_run("g", TEXT, RUN), ["p", "q"]]

# What each method is called with, by place, of an object that is made so.
METHODS = {
    "Page": (lambda: PAGE, {"lines": [], "orders": [], "dead": [], "live": [], "is_within": [PAGE], "of_lines": [[B0, A0]]}),
    "Patch": (lambda: B, {"called": [], "texts": [], "own_lines": [], "orders": [], "burials": [], "backs": [], "needs": []}),
    "Lot": (lambda: LOT, {"names": [], "patch_of": ["a"], "is_part": [LOT]}),
    "Bare": (lambda: ONE, {"told_words": [], "arrows": [], "dead_points": [], "aheads": []}),
    "FileTree": (lambda: TREE, {"entries": [], "placings": [], "dead": [], "alive": [], "places_of": [B0]}),
    "Hands": (lambda: HANDS, {"lots_told": [], "whole_lot": [], "behind_pulls": [[("h", "k")]]}),
    "House": (house, {
        "do": [("fetch", "h", "k", ["b"])], "hands": [], "marks": [], "lot_at": ["h"], "text_at": ["h"], "clashes_at": ["k"],
        "who_has": ["a"], "news": ["h", "k"], "would": ["h", "k"], "together": [["h", "k"]], "calm_turns": ["h", ["k"]], "stuck_turns": ["h", ["k"]],
        "count": [], "undo": [], "again": [], "deeds": [], "at": [3], "trial": [lambda given: given.undo()], "copy": []}),
}
MADE = {
    "Page": [LINES, [(A0, A1)], [B0]], "Patch": ["p", ["x"], [(("p", 0), A0)], [A1], [("c", A0)]], "Lot": [[A, B]], "Bare": [["a", "c"], [(0, 1)], [1]],
    "FileTree": [{A0: "directory"}, {("m", 0): (A0, (None, "a"), [])}, [A0]], "Hands": [{"h": Lot([A]), "k": LOT}], "House": [],
}


def by_names(call, things):
    """What a call tells, its things passed by names, the last one first."""
    names = [name for name in inspect.signature(call).parameters if name != "self"]
    return call(**dict(reversed(list(zip(names, things)))))


class ByNames(unittest.TestCase):
    def check(self, make, things, where):
        told = make()(*things)
        self.assertTrue(exact(by_names(make(), things), told), where)
        self.assertTrue(exact(make()(*things), told), where)
        # An item of a list, or a list of a dict, may be a tuple, and the other way round: keys of dicts may not.
        for turn in (as_lists, as_tuples):
            turned = [{key: turn(thing) for key, thing in item.items()} if isinstance(item, dict) else turn(item) for item in things]
            self.assertTrue(exact(make()(*turned), told), where)

    def test_functions(self):
        known = {row.strip().split("(")[0]: name for name, text in FUNCTIONS.items() for row in rows_in(text)}
        self.assertEqual(set(known), set(CALLS))
        for name, things in CALLS.items():
            call = getattr(importlib.import_module(f"patchlots.{known[name]}"), name)
            self.assertEqual(len(things), len(inspect.signature(call).parameters), name)
            self.check(lambda: call, things, name)

    def test_methods(self):
        for (_, called), text in CLASSES.items():
            make, calls = METHODS[called]
            names = {row.strip().split("(")[0] for row in rows_in(text)}
            self.assertEqual({name for name in names if not name.startswith("__")}, set(calls))
            for name, things in calls.items():
                self.check(lambda: getattr(make(), name), things, (called, name))

    def test_making(self):
        for file, called in CLASSES:
            made = getattr(importlib.import_module(f"patchlots.{file}"), called)
            self.check(lambda: made, MADE[called], called)

    def test_lies_may_be_left_out(self):
        from patchlots import against, searching
        for name in ("possible_ones", "is_search", "fewest_askings", "search", "ask_next"):
            call = getattr(searching, name)
            things = CALLS[name][:-1]
            self.assertTrue(exact(call(*things), call(*things, 0)))
            self.assertTrue(exact(by_names(call, things), call(*things, lies=0)))
        for name in ("answers_against", "are_against"):
            call = getattr(against, name)
            self.assertTrue(exact(call(*CALLS[name][:-1]), call(*CALLS[name][:-1], 0)))


def fetch_all(rng, given):
    """Fetches in drawn orders, until all hands have all; how many there were."""
    hands = list(given.hands())
    fetches = 0
    while any(given.news(hand, other) for hand in hands for other in hands):
        hand, other = rng.sample(hands, 2)
        names = given.news(hand, other)
        if names:
            given.do(("fetch", hand, other, rng.choice([None, rng.sample(names, rng.randint(1, len(names)))])))
            fetches += 1
    return fetches


class ManyHands(unittest.TestCase):
    def test_all_end_with_one_lot_and_one_text(self):
        clashing = 0
        for rng in seeds(25):
            given = House()
            hands = ["h", "k", "l", "m9"][:rng.randint(2, 4)]
            for hand in hands:
                given.do(("come", hand))
            given.do(("type", "h", "start", ["x", "y"]))
            for number in range(rng.randint(3, 8)):
                hand, other = rng.sample(hands, 2)
                lot = given.lot_at(hand)
                name = f"p{number}"
                kind = rng.random()
                if given.text_at(hand) is None:
                    given.do(("settle", hand, name))
                    self.assertIsNotNone(given.text_at(hand))
                elif kind < 0.5:
                    text = [rng.choice("xyzw") for _ in range(rng.randint(0, 4))]
                    given.do(("type", hand, name, text))
                    self.assertEqual(given.text_at(hand), text)
                elif kind < 0.6:
                    live = page_of(lot).live()
                    given.do(("record", hand, Patch(name, ["r"], [(line, (name, 0)) for line in live])))
                else:
                    given.do(("fetch", hand, other, None))
            first = given.copy()
            fetch_all(rng, given)
            fetch_all(rng, first)
            lots = list(given.hands().values()) + list(first.hands().values())
            for lot in lots:
                self.assertEqual(lot, lots[0])
            clashing += given.text_at("h") is None
            self.assertEqual({str(given.text_at(hand)) for hand in hands}, {str(first.text_at("h"))})
            self.assertEqual(given, first)
            # One settles what clashes, and then all read one text.
            given.do(("settle", "k", "last"))
            fetch_all(rng, given)
            texts = [given.text_at(hand) for hand in hands]
            self.assertIsNotNone(texts[0])
            self.assertEqual(texts, [texts[0]] * len(hands))
        self.assertGreater(clashing, 5)

    def test_written_read_and_goes_on(self):
        for rng in seeds(10):
            given = House()
            for hand in ("h", "k"):
                given.do(("come", hand))
            for number in range(8):
                given.do(("type", "h", f"p{number}", [rng.choice("xyz") for _ in range(rng.randint(0, 4))]))
                given = read_house(write_house(given))
                given.do(("fetch", "k", "h", None))
                self.assertEqual(given.text_at("k"), given.text_at("h"))


if __name__ == "__main__":
    unittest.main()
