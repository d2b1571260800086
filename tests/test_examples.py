"""Points 19, 31, 42, 50, 59, 71, 79, 86, 94, 102, 111, 117 and 126: the examples, as they are written."""

import unittest

from patchlots.against import answers_against, are_against
from patchlots.bares import Bare
from patchlots.clashes import clashes, keeping_patch, lost_lines
from patchlots.columns import columns, richest_stay, scattered
from patchlots.commonrows import many_common_rows, matches_in_all, surely_kept
from patchlots.crossing import lot_of_run
from patchlots.differences import cut_text, difference, is_difference
from patchlots.forgetting import page_without, why_kept
from patchlots.gluing import glued
from patchlots.hands import Hands
from patchlots.histories import histories, how_many_histories, how_many_parts, is_history, parts_of
from patchlots.houses import House
from patchlots.inverses import apart_later, apart_now, taken_out
from patchlots.later import both_read, kept_page, parting_company, told_apart
from patchlots.lots import Lot, page_of
from patchlots.moves import claims, fewest_moves
from patchlots.needs import rounds_of
from patchlots.origins import tried_parts
from patchlots.overtexts import clash_over, texts_over
from patchlots.pages import Page
from patchlots.patches import Patch
from patchlots.pieces import pieces_of
from patchlots.places import passed
from patchlots.readable import odd_pairs, readable_parts
from patchlots.reading import gone, is_ahead, reading, text_of, unordered
from patchlots.rows import how_many_rows, rows_of
from patchlots.runs import all_leads, stuck_pairs
from patchlots.searching import fewest_askings, is_search, search
from patchlots.settling import cheapest_settlement, fewest_orders
from patchlots.stays import always_stay, longest_stay, stay_levels
from patchlots.treedeeds import deed_done, least_clashes
from patchlots.trees import FileTree, troubles
from patchlots.turning import greatest_straight, least_ordering, least_turning

A0, A1, B0, C0 = ("a", 0), ("a", 1), ("b", 0), ("c", 0)


class Examples(unittest.TestCase):
    def test_19(self):
        lines = {A0: "", A1: "", B0: "", C0: ""}
        orders = [(A0, A1), (A0, B0), (B0, A1), (A0, C0), (C0, A1)]
        page = Page(lines, orders, [])
        self.assertEqual(unordered(page), (("b", 0), ("c", 0)))
        self.assertEqual(len(rows_of(page)), 2)
        self.assertEqual(how_many_rows(page), 2)
        self.assertEqual(reading(Page(lines, orders, [C0])), [A0, B0, A1])
        page = Page(lines, orders, [A0, A1])
        self.assertEqual(gone(page), [B0, C0])
        self.assertEqual(unordered(page), (B0, C0))

    def test_31(self):
        a = Patch("a", ["x", "y"], [(("a", 0), ("a", 1))])
        b = Patch("b", ["m"], [(("a", 0), ("b", 0)), (("b", 0), ("a", 1))])
        c = Patch("c", [], burials=[A0])
        d = Patch("d", [], backs=[("c", A0)])
        lot = Lot([a, b, c, d])
        self.assertEqual(text_of(page_of(lot)), ["x", "m", "y"])
        self.assertEqual(text_of(page_of(Lot([a, b, c]))), ["m", "y"])
        self.assertEqual(d.needs(), ["a", "c"])
        self.assertEqual(rounds_of(lot), [["a"], ["b", "c"], ["d"]])
        self.assertEqual([len(histories(lot)), how_many_histories(lot)], [3, 3])
        self.assertEqual([len(parts_of(lot)), how_many_parts(lot)], [7, 7])

    def test_42(self):
        one, two = (0, ["a"], ["x", "y"]), (3, ["c"], [])
        self.assertEqual(passed(one, two), ((2, ["c"], []), (0, ["a"], ["x", "y"])))
        self.assertIsNone(passed((1, [], ["p"]), (1, ["p"], [])))
        self.assertIsNone(passed((1, ["b"], []), (1, [], ["q"])))
        self.assertEqual(passed((1, ["b"], []), (1, ["c"], [])), ((2, ["c"], []), (1, ["b"], [])))
        text = ["a", "b", "c"]
        run = [("p", (1, ["b"], [])), ("q", (1, [], ["q"]))]
        self.assertEqual(stuck_pairs(text, run), [("p", "q")])
        self.assertTrue(is_history(lot_of_run("g", text, run), ["g", "q", "p"]))
        s, p, q, t = [("s", (1, [], ["x"])), ("p", (1, ["x"], [])), ("q", (1, [], ["y"])), ("t", (1, ["y"], []))]
        self.assertEqual(lot_of_run("g", ["a", "b"], [s, p, q, t]), lot_of_run("g", ["a", "b"], [q, t, s, p]))
        self.assertEqual(all_leads(["a", "b"], [s, p, q, t]), [["s", "p", "q", "t"]])

    def test_50(self):
        common = Bare(["a", "c"], [(0, 1)], [])
        for dead in ([], [1]):
            one = Bare(["a", "x", "c"], [(0, 1), (1, 2)], dead)
            other = Bare(["a", "y", "c"], [(0, 1), (1, 2)], [])
            span = [common, one, other, (0, 2), (0, 2)]
            page = Bare(["a", "x", "c", "y"], [(0, 1), (0, 3), (1, 2), (3, 2)], dead)
            self.assertEqual(glued(span), (page, (0, 1, 2), (0, 3, 2)))
            if not dead:
                self.assertEqual(clash_over(span), (1, 1))
                self.assertEqual(texts_over(span), [((0, 1, 3), (0, 2, 3)), ((0, 2, 3), (0, 1, 3))])

    def test_59(self):
        a = Patch("a", ["x", "y", "z"])
        x, y, z = a.own_lines()
        b, c, d = Patch("b", [], [(x, y)]), Patch("c", [], [(y, z)]), Patch("d", [], [(z, x)])
        self.assertEqual(clashes(page_of(Lot([a]))), [("apart", x, y), ("apart", x, z), ("apart", y, z)])
        lot = Lot([a, b, c, d])
        self.assertEqual(least_turning(lot), [["a", "b", "c", "d"]])
        three = [["a", "b", "c"], ["a", "b", "d"], ["a", "c", "d"]]
        self.assertEqual(greatest_straight(lot), three)
        self.assertEqual(readable_parts(lot), [[], *three])
        self.assertEqual(odd_pairs(lot), [])
        self.assertEqual(least_ordering(lot, x, z), [["a", "d"], ["a", "b", "c"]])
        self.assertEqual(lost_lines(lot), [x, y, z])
        self.assertEqual(keeping_patch(lot, "k"), Patch("k", [], [], [x, y, z]))

    def test_71(self):
        page = Page(dict.fromkeys([A0, A1, B0, C0], ""), [(A0, A1), (A0, B0), (B0, A1), (A0, C0), (C0, A1)], [])
        self.assertEqual(len(longest_stay(page)), 3)
        self.assertEqual(always_stay(page), [("a", 0), ("a", 1)])
        self.assertEqual(stay_levels(page), [[("a", 0)], [("b", 0), ("c", 0)], [("a", 1)]])
        self.assertEqual(len(columns(page)), 2)
        self.assertEqual(scattered(page), [("b", 0), ("c", 0)])
        self.assertEqual(len(fewest_orders(page)), 1)
        self.assertEqual([cheapest_settlement(page, price)[0] for price in (1, 2, 3, 10)], [1, 1, 1, 1])
        self.assertEqual(richest_stay(page, {A0: 1, A1: 1, B0: 2, C0: 5}), (7, [A0, C0, A1]))

    def test_79(self):
        one, other = list("abcab"), list("cabc")
        self.assertEqual(many_common_rows(one, other), 2)
        self.assertEqual(matches_in_all(one, other), [])
        self.assertEqual(surely_kept(one, other), [2])
        cuts = [[(0, 0, ["c"]), (3, 2, [])], [(0, 2, []), (5, 0, ["c"])]]
        self.assertIn(difference(one, other), cuts)
        for told in cuts:
            self.assertTrue(is_difference(one, told))
            self.assertEqual(cut_text(one, told), other)

    def test_86(self):
        tree = FileTree({}, {}, [])
        for name in "abc":
            tree = deed_done(tree, name, [("make", "directory", (None, name))])
        deeds = {"x": [("move", A0, (B0, "a"))], "y": [("move", B0, (C0, "b"))], "z": [("move", C0, (A0, "c"))]}
        done = [deed_done(tree, name, steps) for name, steps in deeds.items()]
        self.assertEqual([troubles(done[at] | done[at - 1]) for at in range(3)], [[], [], []])
        self.assertEqual(least_clashes(tree, deeds), [["x", "y", "z"]])
        together = done[0] | done[1] | done[2]
        self.assertEqual(troubles(together), [("round", ("a", 0), ("b", 0), ("c", 0))])
        self.assertEqual(fewest_moves(together), [("a", 0)])
        self.assertEqual(claims(together), [([("a", 0), ("b", 0), ("c", 0)], 1)])

    def test_94(self):
        a = Patch("a", ["x", "y"], [(A0, A1)])
        b = Patch("b", ["m"], [(A0, B0), (B0, A1)])
        lot = Lot([a, b, Patch("c", [], burials=[A0])])
        for name in ("c", "b"):
            self.assertIsNone(apart_now(lot, name, "z"))
            self.assertIsNone(apart_later(lot, name, "z"))
        self.assertEqual(taken_out(lot, "c"), Lot([a, b]))
        self.assertTrue(is_ahead(page_of(taken_out(lot, "b")), A0, A1))
        alone = Patch("a", ["x", "y"])
        lot = Lot([alone, Patch("e", [], [(("a", 0), ("a", 1))])])
        self.assertEqual(apart_now(lot, "e", "z"), ("ahead", ("a", 0), ("a", 1)))
        self.assertEqual(len(pieces_of(a)), 1)
        self.assertEqual(pieces_of(alone), [[("says", 0)], [("says", 1)]])

    def test_102(self):
        lot = Lot([Patch("a", ["x", "y"], [(A0, A1)]), Patch("b", ["m"], [(A0, B0), (B0, A1)]), Patch("c", [], burials=[A0])])
        askings = [[], ["a"], ["a", "b"], ["a", "c"], ["a", "b", "c"]]
        self.assertEqual(tried_parts(lot), askings)
        suspects = ["a", "b", "c"]
        self.assertEqual(fewest_askings(suspects, askings), 2)
        self.assertTrue(is_search(suspects, askings, (1, "a", (2, "b", "c"))))
        self.assertTrue(is_search(suspects, askings, search(suspects, askings)))
        self.assertTrue(are_against(suspects, askings, 1, answers_against(suspects, askings, 1)))
        self.assertIsNone(answers_against(suspects, askings, 2))

    def test_111(self):
        a = Patch("a", ["x", "y"], [(A0, A1)])
        b = Patch("b", [], burials=[A0])
        c = Patch("c", ["z"], [(A0, C0), (C0, A1)])
        hands = Hands({"h": Lot([a, b]), "k": Lot([a]), "m": Lot([a, b, c])})
        self.assertEqual(why_kept(hands, "h", A0), ("live", ["k"]))
        behind = hands.behind_pulls([("k", "h")])
        self.assertEqual(why_kept(behind, "h", A0), ("told", "c"))
        behind = behind.behind_pulls([("h", "m")])
        self.assertIsNone(why_kept(behind, "h", A0))
        page = page_of(behind.lots_told()["h"])
        self.assertEqual(page_without(page, [A0]), Page({A1: "y", C0: "z"}, [(("c", 0), ("a", 1))], []))

    def test_117(self):
        lines = {A0: "x", A1: "y", B0: "z"}
        one = Page(lines, [(A0, B0), (B0, A1)], [B0])
        other = Page(lines, [(A0, A1), (B0, A1)], [B0])
        self.assertEqual(told_apart(one, other), ("ahead", ("a", 0), ("b", 0)))
        self.assertEqual([reading(one), reading(other)], [[A0, A1], [A0, A1]])
        company = parting_company(one, other)
        self.assertEqual(company.dead(), [A0, A1])
        first, last = company.live()[1:]
        self.assertEqual(company.orders(), [(B0, last), (first, A0)])
        self.assertEqual(both_read(one, other, company), ([first, last], None))
        self.assertEqual(kept_page(one, [A0, A1]), kept_page(other, [A0, A1]))

    def test_126(self):
        def house_with(text):
            house = House()
            for deed in (("come", "a"), ("record", "a", Patch("p", ["x"])), ("come", "b"), ("fetch", "b", "a", None),
                         ("type", "a", "q", ["x", "y"]), ("type", "b", "r", text)):
                house.do(deed)
            return house

        self.assertEqual(house_with(["z", "x"]).would("a", "b"), (["z", "x", "y"], []))
        house = house_with(["x", "z"])
        self.assertEqual(house.would("a", "b"), (None, [("apart", ("q", 0), ("r", 0))]))
        house.do(("come", "c"))
        house.do(("fetch", "c", "a", None))
        house.do(("fetch", "c", "b", None))
        patch = keeping_patch(house.lot_at("c"), "s")
        self.assertEqual(house.do(("record", "c", patch)), (["s"], []))
        self.assertIn(house.text_at("c"), (["x", "y", "z"], ["x", "z", "y"]))


if __name__ == "__main__":
    unittest.main()
