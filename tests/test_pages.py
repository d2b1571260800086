"""Points 3 to 8 and 16: names, words, lines, orders, and pages of them."""

import unittest

from patchlots.errors import BadDead, BadLines, BadOrders, BadPick, Unlike
from patchlots.kinds import is_line, is_name, is_order, is_words
from patchlots.lots import Lot
from patchlots.pages import Page
from tests.helping import JUNK, as_lists, caught, exact, random_page, seeds

A0, A1, B0, C0 = ("a", 0), ("a", 1), ("b", 0), ("c", 0)


class Kinds(unittest.TestCase):
    def test_names(self):
        for name in ("a", "z", "a0", "z9z", "abcdefghijkl", "a" + "9" * 11):
            self.assertIs(is_name(name), True)
        for thing in JUNK + ["", "0a", "aB", "a b", "a_", "a-", "abcdefghijklm", "\u00e9", "a\u0663",
                             "a\n", ["a"], 0, b"a"]:
            self.assertIs(is_name(thing), False, thing)

    def test_words(self):
        for words in ("", " ", "w" * 200, "a b", "\r", "\u2028", "\t\x0b\x0c\x1c\x85", "\U0001f600" * 200):
            self.assertIs(is_words(words), True)
        for thing in (None, True, 0, [], ["x"], "\n", "a\nb", "w" * 201, {"x": 1}, ("x",)):
            self.assertIs(is_words(thing), False)

    def test_lines(self):
        for line in (("a", 0), ["a", 0], ("z9", 10 ** 18 - 1)):
            self.assertIs(is_line(line), True)
        for thing in (("a", -1), ("a", True), ("a", "0"), ("a", None), ("A", 0), (0, "a"), ("a",),
                      ("a", 0, 0), "a0", {"a": 0}, {0: "a", 1: 0}, None, 3, [["a"], 0], ("a", [0])):
            self.assertIs(is_line(thing), False)

    def test_orders(self):
        for order in ((A0, A1), [["a", 0], ("b", 0)], (("a", 1), ["a", 0])):
            self.assertIs(is_order(order), True)
        for thing in ((A0, A0), (A0, ["a", 0]), (A0,), (A0, A1, B0), A0, "ab", (A0, None), (None, A0),
                      (A0, ("a", True)), {A0: A1}, []):
            self.assertIs(is_order(thing), False)


class Pages(unittest.TestCase):
    def test_told_in_the_order_each_once(self):
        page = Page({("b", 0): "q", ("a", 10): "", ("a", 9): "r", ("a1", 0): "s"},
                    [(("b", 0), ("a", 9)), (("a", 10), ("b", 0)), (("a", 9), ("b", 0)), (("b", 0), ("a", 9))],
                    [("b", 0), ("a", 10), ("b", 0)])
        self.assertTrue(exact(page.lines(), {("a", 9): "r", ("a", 10): "", ("a1", 0): "s", ("b", 0): "q"}))
        self.assertTrue(exact(page.orders(), [(("a", 9), ("b", 0)), (("a", 10), ("b", 0)), (("b", 0), ("a", 9))]))
        self.assertTrue(exact(page.dead(), [("a", 10), ("b", 0)]))
        self.assertTrue(exact(page.live(), [("a", 9), ("a1", 0)]))

    def test_empty_page(self):
        for page in (Page({}, [], []), Page({}, (), ())):
            self.assertTrue(exact([page.lines(), page.orders(), page.dead(), page.live()], [{}, [], [], []]))

    def test_lists_for_tuples_and_names_of_parameters(self):
        one = Page({A0: "x", A1: "y"}, [(A0, A1)], [A1])
        other = Page(dead=(["a", 1],), orders=((["a", 0], ["a", 1]),), lines={A1: "y", A0: "x"})
        self.assertEqual(one, other)
        self.assertTrue(exact(other.orders(), [(A0, A1)]))
        self.assertTrue(exact(other.dead(), [A1]))

    def test_bad_lines(self):
        for key in (None, 3, True, "a", "a.0", ("A", 0), ("a", -1), ("a", True), ("a",), ("a", 0, 0), (A0, A1), ()):
            self.assertIs(caught(BadLines, Page, {A0: "x", key: "x", (): 3}, [3], 3).thing, key)
        for words in (None, 3, True, ["x"], "a\nb", "w" * 201, ("x",), {}):
            self.assertEqual(caught(BadLines, Page, {A0: "x", B0: words, None: "x"}, 3, 3).thing, B0)
        for thing in (None, 3, True, "a", [], (), [A0], [(A0, "x")], Page({A0: "x"}, [], [])):
            self.assertIs(caught(BadLines, Page, thing, [], []).thing, thing)

    def test_bad_orders(self):
        lines = {A0: "x", A1: "y"}
        for thing in JUNK + [(A0, A0), (A0, B0), (B0, A0), (A0,), (A0, A1, A0), "ab", (A0, ("a", True)), A0, {A0: A1}]:
            self.assertEqual(caught(BadOrders, Page, lines, [(A0, A1), [A1, A0], thing, 3], 3).index, 2)
            self.assertEqual(caught(BadOrders, Page, lines, (thing,), [thing]).index, 0)
        for thing in (None, True, 0, "", "ab", {}, {A0: A1}, Page({}, [], [])):
            self.assertEqual(caught(BadOrders, Page, lines, thing, None).index, 0)

    def test_bad_dead(self):
        lines = {A0: "x", A1: "y"}
        for thing in JUNK + [B0, ("a", 2), "a0", ["a"], ("a", False), [A0]]:
            self.assertEqual(caught(BadDead, Page, lines, [], [A0, A0, A1, thing, 3]).index, 3)
        for thing in (None, True, 0, "", "a", {}, {A0: 1}, Lot([])):
            self.assertEqual(caught(BadDead, Page, lines, [], thing).index, 0)
        self.assertEqual(caught(BadDead, Page, lines, [], ("a", 0)).index, 0)

    def test_equal_and_nothing_else(self):
        page = Page({A0: "x", A1: "y"}, [(A0, A1)], [A1])
        self.assertTrue(page == Page({A1: "y", A0: "x"}, [(A0, A1), (A0, A1)], (A1, A1)))
        self.assertFalse(page != Page({A1: "y", A0: "x"}, [(A0, A1)], [A1]))
        for other in (Page({A0: "x", A1: "z"}, [(A0, A1)], [A1]), Page({A0: "x", A1: "y"}, [(A1, A0)], [A1]),
                      Page({A0: "x", A1: "y"}, [(A0, A1)], [A0]), Page({A0: "x", A1: "y"}, [(A0, A1)], []),
                      Page({A0: "x", A1: "y", B0: ""}, [(A0, A1)], [A1]), Page({A0: "x", A1: "y"}, [], [A1])):
            self.assertFalse(page == other)
            self.assertTrue(page != other)
        for other in JUNK + [page.lines(), "line a.0 x\n", (page,)]:
            self.assertIs(page == other, False)
        self.assertTrue(Page({}, [], []) == Page({}, [], []))

    def test_later_changes_have_no_effect(self):
        lines, orders, dead = {A0: "x", A1: "y"}, [[["a", 0], ["a", 1]]], [["a", 1]]
        page = Page(lines, orders, dead)
        same = Page({A0: "x", A1: "y"}, [(A0, A1)], [A1])
        lines[A0] = "z"
        lines[B0] = "z"
        orders[0][0][0] = "b"
        orders.clear()
        dead[0][1] = 0
        self.assertEqual(page, same)
        page.lines()[A0] = "q"
        page.lines().clear()
        page.orders().append(3)
        page.dead().clear()
        page.live().clear()
        self.assertEqual(page, same)
        self.assertEqual(page.live(), [A0])

    def test_arguments_are_not_changed(self):
        lines, orders, dead = {A1: "y", A0: "x"}, [(A1, A0), (A0, A1)], [A1, A0]
        Page(lines, orders, dead)
        self.assertEqual([list(lines), orders, dead], [[A1, A0], [(A1, A0), (A0, A1)], [A1, A0]])


class Together(unittest.TestCase):
    def test_union(self):
        one = Page({A0: "x", A1: "y"}, [(A0, A1)], [A1])
        other = Page({A1: "y", B0: "z"}, [(A1, B0)], [B0])
        both = Page({A0: "x", A1: "y", B0: "z"}, [(A0, A1), (A1, B0)], [A1, B0])
        self.assertEqual(one | other, both)
        self.assertEqual(other | one, both)
        self.assertTrue(exact(list((other | one).lines()), [A0, A1, B0]))
        self.assertEqual(one | one, one)
        self.assertEqual(one | Page({}, [], []), one)

    def test_unlike(self):
        one = Page({A0: "x", A1: "y", B0: "z", C0: ""}, [], [])
        other = Page({C0: "q", B0: "q", A0: "x"}, [], [A0])
        self.assertTrue(exact(caught(Unlike, lambda: one | other).line, B0))
        self.assertTrue(exact(caught(Unlike, lambda: other | one).line, B0))

    def test_union_by_definition(self):
        for rng in seeds(150):
            one, other = random_page(rng), random_page(rng)
            lines = {line: "" for line in list(one.lines()) + list(other.lines())}
            one = Page({line: "" for line in one.lines()}, one.orders(), one.dead())
            other = Page({line: "" for line in other.lines()}, other.orders(), other.dead())
            self.assertEqual(one | other, Page(lines, one.orders() + other.orders(), one.dead() + other.dead()))
            self.assertIs(one.is_within(one | other), True)
            self.assertIs(other.is_within(one | other), True)
            self.assertIs(one.is_within(other), (one | other) == other)

    def test_is_within(self):
        page = Page({A0: "x", A1: "y"}, [(A0, A1)], [A1])
        for other, told in ((page, True), (Page({}, [], []), False),
                            (Page({A0: "x", A1: "y", B0: ""}, [(A0, A1), (A1, A0)], [A0, A1]), True),
                            (Page({A0: "x", A1: "y"}, [(A1, A0)], [A1]), False),
                            (Page({A0: "x", A1: "y"}, [(A0, A1)], []), False),
                            (Page({A0: "z", A1: "y"}, [(A0, A1)], [A1]), False),
                            (Page({A1: "y"}, [], [A1]), False)):
            self.assertIs(page.is_within(other), told)
            self.assertIs(page.is_within(other=other), told)
        self.assertIs(Page({}, [], []).is_within(page), True)

    def test_of_lines(self):
        page = Page({A0: "x", A1: "y", B0: "z"}, [(A0, A1), (A1, B0), (A0, B0)], [B0, A0])
        self.assertEqual(page.of_lines([["b", 0], A0]), Page({A0: "x", B0: "z"}, [(A0, B0)], [A0, B0]))
        self.assertEqual(page.of_lines(lines=(A1, B0)), Page({A1: "y", B0: "z"}, [(A1, B0)], [B0]))
        self.assertEqual(page.of_lines([]), Page({}, [], []))
        self.assertEqual(page.of_lines([B0, A1, A0]), page)
        self.assertEqual(page, Page({A0: "x", A1: "y", B0: "z"}, [(A0, A1), (A1, B0), (A0, B0)], [B0, A0]))

    def test_bad_pick(self):
        page = Page({A0: "x", A1: "y"}, [(A0, A1)], [])
        for thing in JUNK + [A0, ["a", 0], B0, "a0", ("a", True), as_lists([A0])]:
            self.assertEqual(caught(BadPick, page.of_lines, [A0, A1, thing, 3]).index, 2)
        for thing in (None, True, 0, "", "a", {}, {A0: 1}, ("a", 0), page):
            self.assertEqual(caught(BadPick, page.of_lines, thing).index, 0)


if __name__ == "__main__":
    unittest.main()
