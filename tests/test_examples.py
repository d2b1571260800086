"""Points 19, 31, 42, 50, 59, 71, 79 and 86: the examples, as they are written."""

import unittest

from patchlots.bares import Bare
from patchlots.clashes import clashes, keeping_patch, lost_lines
from patchlots.columns import columns, richest_stay, scattered
from patchlots.commonrows import many_common_rows, matches_in_all, surely_kept
from patchlots.crossing import lot_of_run
from patchlots.differences import cut_text, difference, is_difference
from patchlots.gluing import glued
from patchlots.histories import histories, how_many_histories, how_many_parts, is_history, parts_of
from patchlots.lots import Lot, page_of
from patchlots.needs import rounds_of
from patchlots.overtexts import clash_over, texts_over
from patchlots.pages import Page
from patchlots.patches import Patch
from patchlots.places import passed
from patchlots.readable import odd_pairs, readable_parts
from patchlots.reading import gone, reading, text_of, unordered
from patchlots.rows import how_many_rows, rows_of
from patchlots.runs import all_leads, stuck_pairs
from patchlots.settling import cheapest_settlement, fewest_orders
from patchlots.stays import always_stay, longest_stay, stay_levels
from patchlots.trees import FileTree, troubles
from patchlots.turning import greatest_straight, least_ordering, least_turning

A0, A1, B0, C0 = ("a", 0), ("a", 1), ("b", 0), ("c", 0)


class Examples(unittest.TestCase):
    def test_19(self):
        lines = {A0: "", A1: "", B0: "", C0: ""}
        orders = [(A0, A1), (A0, B0), (B0, A1), (A0, C0), (C0, A1)]
        page = Page(lines, orders, [])
        self.assertEqual(unordered(page), (("b", 0), ("c", 0)))
        self.assertEqual(len(rows_of(page)), 2)
        self.assertEqual(how_many_rows(page), 2)
        self.assertEqual(reading(Page(lines, orders, [C0])), [A0, B0, A1])
        page = Page(lines, orders, [A0, A1])
        self.assertEqual(gone(page), [B0, C0])
        self.assertEqual(unordered(page), (B0, C0))

    def test_31(self):
        a = Patch("a", ["x", "y"], [(("a", 0), ("a", 1))])
        b = Patch("b", ["m"], [(("a", 0), ("b", 0)), (("b", 0), ("a", 1))])
        c = Patch("c", [], burials=[A0])
        d = Patch("d", [], backs=[("c", A0)])
        lot = Lot([a, b, c, d])
        self.assertEqual(text_of(page_of(lot)), ["x", "m", "y"])
        self.assertEqual(text_of(page_of(Lot([a, b, c]))), ["m", "y"])
        self.assertEqual(d.needs(), ["a", "c"])
        self.assertEqual(rounds_of(lot), [["a"], ["b", "c"], ["d"]])
        self.assertEqual([len(histories(lot)), how_many_histories(lot)], [3, 3])
        self.assertEqual([len(parts_of(lot)), how_many_parts(lot)], [7, 7])

    def test_42(self):
        one, two = (0, ["a"], ["x", "y"]), (3, ["c"], [])
        self.assertEqual(passed(one, two), ((2, ["c"], []), (0, ["a"], ["x", "y"])))
        self.assertIsNone(passed((1, [], ["p"]), (1, ["p"], [])))
        self.assertIsNone(passed((1, ["b"], []), (1, [], ["q"])))
        self.assertEqual(passed((1, ["b"], []), (1, ["c"], [])), ((2, ["c"], []), (1, ["b"], [])))
        text = ["a", "b", "c"]
        run = [("p", (1, ["b"], [])), ("q", (1, [], ["q"]))]
        self.assertEqual(stuck_pairs(text, run), [("p", "q")])
        self.assertTrue(is_history(lot_of_run("g", text, run), ["g", "q", "p"]))
        s, p, q, t = [("s", (1, [], ["x"])), ("p", (1, ["x"], [])), ("q", (1, [], ["y"])), ("t", (1, ["y"], []))]
        self.assertEqual(lot_of_run("g", ["a", "b"], [s, p, q, t]), lot_of_run("g", ["a", "b"], [q, t, s, p]))
        self.assertEqual(all_leads(["a", "b"], [s, p, q, t]), [["s", "p", "q", "t"]])

    def test_50(self):
        common = Bare(["a", "c"], [(0, 1)], [])
        for dead in ([], [1]):
            one = Bare(["a", "x", "c"], [(0, 1), (1, 2)], dead)
            other = Bare(["a", "y", "c"], [(0, 1), (1, 2)], [])
            span = [common, one, other, (0, 2), (0, 2)]
            page = Bare(["a", "x", "c", "y"], [(0, 1), (0, 3), (1, 2), (3, 2)], dead)
            self.assertEqual(glued(span), (page, (0, 1, 2), (0, 3, 2)))
            if not dead:
                self.assertEqual(clash_over(span), (1, 1))
                self.assertEqual(texts_over(span), [((0, 1, 3), (0, 2, 3)), ((0, 2, 3), (0, 1, 3))])

    def test_59(self):
        a = Patch("a", ["x", "y", "z"])
        x, y, z = a.own_lines()
        b, c, d = Patch("b", [], [(x, y)]), Patch("c", [], [(y, z)]), Patch("d", [], [(z, x)])
        self.assertEqual(clashes(page_of(Lot([a]))), [("apart", x, y), ("apart", x, z), ("apart", y, z)])
        lot = Lot([a, b, c, d])
        self.assertEqual(least_turning(lot), [["a", "b", "c", "d"]])
        three = [["a", "b", "c"], ["a", "b", "d"], ["a", "c", "d"]]
        self.assertEqual(greatest_straight(lot), three)
        self.assertEqual(readable_parts(lot), [[], *three])
        self.assertEqual(odd_pairs(lot), [])
        self.assertEqual(least_ordering(lot, x, z), [["a", "d"], ["a", "b", "c"]])
        self.assertEqual(lost_lines(lot), [x, y, z])
        self.assertEqual(keeping_patch(lot, "k"), Patch("k", [], [], [x, y, z]))

    def test_71(self):
        page = Page(dict.fromkeys([A0, A1, B0, C0], ""), [(A0, A1), (A0, B0), (B0, A1), (A0, C0), (C0, A1)], [])
        self.assertEqual(len(longest_stay(page)), 3)
        self.assertEqual(always_stay(page), [("a", 0), ("a", 1)])
        self.assertEqual(stay_levels(page), [[("a", 0)], [("b", 0), ("c", 0)], [("a", 1)]])
        self.assertEqual(len(columns(page)), 2)
        self.assertEqual(scattered(page), [("b", 0), ("c", 0)])
        self.assertEqual(len(fewest_orders(page)), 1)
        self.assertEqual([cheapest_settlement(page, price)[0] for price in (1, 2, 3, 10)], [1, 1, 1, 1])
        self.assertEqual(richest_stay(page, {A0: 1, A1: 1, B0: 2, C0: 5}), (7, [A0, C0, A1]))

    def test_79(self):
        one, other = list("abcab"), list("cabc")
        self.assertEqual(many_common_rows(one, other), 2)
        self.assertEqual(matches_in_all(one, other), [])
        self.assertEqual(surely_kept(one, other), [2])
        cuts = [[(0, 0, ["c"]), (3, 2, [])], [(0, 2, []), (5, 0, ["c"])]]
        self.assertIn(difference(one, other), cuts)
        for told in cuts:
            self.assertTrue(is_difference(one, told))
            self.assertEqual(cut_text(one, told), other)

    def test_86(self):
        kinds = dict.fromkeys([A0, B0, C0], "directory")
        placings = {A0: (A0, (None, "a"), []), B0: (B0, (None, "b"), []), C0: (C0, (None, "c"), [])}
        moved = {("x", 0): (A0, (B0, "a"), [A0]), ("y", 0): (B0, (C0, "b"), [B0]), ("z", 0): (C0, (A0, "c"), [C0])}
        trees = [FileTree(kinds, {**placings, mark: triple}, []) for mark, triple in moved.items()]
        self.assertEqual([troubles(trees[at] | trees[at - 1]) for at in range(3)], [[], [], []])
        self.assertEqual(troubles(trees[0] | trees[1] | trees[2]), [("round", ("a", 0), ("b", 0), ("c", 0))])


if __name__ == "__main__":
    unittest.main()
