"""Point 20, and needs() of point 21: patches."""

import unittest

from patchlots.errors import BadBacks, BadBurials, BadName, BadOrders, BadTexts
from patchlots.patches import Patch
from tests.helping import JUNK, A, B, C, D, as_lists, caught, exact

A0, A1, B0, C0 = ("a", 0), ("a", 1), ("b", 0), ("c", 0)


def told(patch):
    return [patch.called(), patch.texts(), patch.own_lines(), patch.orders(), patch.burials(), patch.backs(),
            patch.needs()]


class Patches(unittest.TestCase):
    def test_told_in_the_order_each_once(self):
        patch = Patch("p", ["x", "", "x"],
                      [(("p", 2), ("p", 0)), (B0, ("p", 1)), (B0, A1), (("p", 2), ("p", 0)), (("a", 10), ("a", 9))],
                      [B0, ("a", 10), ("a", 9)], [("q", C0), ("c1", ("d", 3)), ("c1", ("d", 0)), ("c", ("z", 0))])
        self.assertTrue(exact(told(patch), [
            "p", ["x", "", "x"], [("p", 0), ("p", 1), ("p", 2)],
            [(("a", 10), ("a", 9)), (B0, A1), (B0, ("p", 1)), (("p", 2), ("p", 0))],
            [("a", 9), ("a", 10), B0], [("c", ("z", 0)), ("c1", ("d", 0)), ("c1", ("d", 3)), ("q", C0)],
            ["a", "b", "c", "c1", "d", "q", "z"]]))

    def test_nothing_but_a_name(self):
        for patch in (Patch("p", []), Patch("p", (), (), (), ()), Patch("p", [], [], [], [])):
            self.assertTrue(exact(told(patch), ["p", [], [], [], [], [], []]))

    def test_lists_for_tuples_and_names_of_parameters(self):
        one = Patch("p", ["x"], [(A0, ("p", 0))], [B0], [("c", A0)])
        self.assertTrue(exact(told(Patch("p", ("x",), ([["a", 0], ["p", 0]],), (["b", 0],), (["c", ["a", 0]],))),
                              told(one)))
        self.assertEqual(Patch(backs=[("c", A0)], burials=[B0], orders=[(A0, ("p", 0))], texts=["x"], name="p"), one)
        self.assertEqual(Patch("p", [], backs=[("c", A0)]).backs(), [("c", A0)])
        self.assertEqual(Patch("p", [], burials=[B0]).burials(), [B0])

    def test_needs(self):
        self.assertEqual([patch.needs() for patch in (A, B, C, D)], [[], ["a"], ["a"], ["a", "c"]])
        self.assertEqual(Patch("p", ["x"], [(("p", 0), ("z", 4)), (("m", 0), ("k", 0))]).needs(), ["k", "m", "z"])
        self.assertEqual(Patch("p", [], [], [("z", 0), ("y", 0), ("z", 1)]).needs(), ["y", "z"])
        self.assertEqual(Patch("p", [], [], [], [("z", ("y", 0))]).needs(), ["y", "z"])
        self.assertEqual(Patch("p", ["x", "y"], [(("p", 0), ("p", 1))]).needs(), [])

    def test_bad_name(self):
        for thing in JUNK + ["", "P", "a b", "abcdefghijklm", "9", ["p"], 0]:
            self.assertIs(caught(BadName, Patch, thing, 3, 3, 3, 3).thing, thing)

    def test_bad_texts(self):
        for thing in (None, True, 0, ["x"], ("x",), "a\nb", "w" * 201, {}, A):
            self.assertEqual(caught(BadTexts, Patch, "p", ["x", "", thing, 3], 3, 3, 3).index, 2)
        for thing in (None, True, 0, "", "xy", {}, {"x": 1}, A):
            self.assertEqual(caught(BadTexts, Patch, "p", thing, 3).index, 0)

    def test_bad_orders(self):
        good = [(A0, A1), [["p", 0], B0]]
        for thing in JUNK + [(A0, A0), (("p", 0), ("p", 0)), (A0, ("p", 1)), (("p", 1), A0), (("p", 0), ("p", 7)),
                             (A0, ("a", True)), (A0,), (A0, A1, B0), A0, "ab", (A0, ("p", -1)), {A0: A1}]:
            self.assertEqual(caught(BadOrders, Patch, "p", ["x"], good + [thing, 3], 3, 3).index, 2)
        self.assertEqual(caught(BadOrders, Patch, "p", [], [(A0, ("p", 0))]).index, 0)
        for thing in (None, True, 0, "", {}, {A0: A1}, A):
            self.assertEqual(caught(BadOrders, Patch, "p", ["x"], thing, 3).index, 0)

    def test_bad_burials(self):
        for thing in JUNK + [("p", 0), ("p", 9), A0, ["a", 0], ("b", True), "b", [B0]]:
            self.assertEqual(caught(BadBurials, Patch, "p", ["x"], [], [A0, ("b", 1), thing, 3], 3).index, 2)
        for thing in (None, True, 0, "", {}, {A0: A1}, A, ("b", 0)):
            self.assertEqual(caught(BadBurials, Patch, "p", ["x"], (), thing, 3).index, 0)

    def test_bad_backs(self):
        good = [("c", A0), ["c", ["a", 1]], ("d", A0)]
        for thing in JUNK + [("p", A0), ("c", ("p", 0)), ("c", C0), ("c", ("c", 7)), ("c", A0), ["c", ["a", 0]], ("c",),
                             ("c", A0, B0), (A0, "c"), ("C", A0), ("c", ("a", True)), ("c", None), (None, A0), A0,
                             ("c", "a"), "ca", {"c": A0}]:
            self.assertEqual(caught(BadBacks, Patch, "p", ["x"], [], [], good + [thing, 3]).index, 3)
        for thing in (None, True, 0, "", {}, {"c": A0}, A, ("c", A0)):
            self.assertEqual(caught(BadBacks, Patch, "p", ["x"], [], [], thing).index, 0)

    def test_which_error_comes_first(self):
        caught(BadTexts, Patch, "p", [3], [3], [3], [3])
        caught(BadOrders, Patch, "p", [], [3], [3], [3])
        caught(BadBurials, Patch, "p", [], [], [3], [3])
        caught(BadName, Patch, "P", [3], [3], [3], [3])

    def test_equal_and_nothing_else(self):
        one = Patch("p", ["x"], [(A0, ("p", 0)), (A0, A1)], [B0, C0], [("c", A0), ("d", A0)])
        same = Patch("p", ("x",), [(A0, A1), (A0, ("p", 0)), (A0, A1)], [C0, B0], [("d", A0), ("c", A0)])
        self.assertIs(one == same, True)
        self.assertIs(one != same, False)
        for other in (Patch("q", [], [(A0, A1)], [B0, C0], [("c", A0), ("d", A0)]),
                      Patch("p", ["y"], [(A0, ("p", 0)), (A0, A1)], [B0, C0], [("c", A0), ("d", A0)]),
                      Patch("p", ["x"], [(A0, ("p", 0))], [B0, C0], [("c", A0), ("d", A0)]),
                      Patch("p", ["x"], [(A0, ("p", 0)), (A0, A1)], [B0], [("c", A0), ("d", A0)]),
                      Patch("p", ["x"], [(A0, ("p", 0)), (A0, A1)], [B0, C0], [("c", A0)])):
            self.assertIs(one == other, False)
            self.assertIs(one != other, True)
        for other in JUNK + ["p", "a", ("p", ["x"])]:
            self.assertIs(one == other, False)
        self.assertIs(Patch("p", []) == Patch("q", []), False)

    def test_later_changes_have_no_effect(self):
        texts, orders, burials, backs = ["x"], as_lists([(A0, ("p", 0))]), [["b", 0]], [["c", ["a", 0]]]
        patch = Patch("p", texts, orders, burials, backs)
        wanted = told(patch)
        texts[0] = "y"
        orders[0][0][0] = "z"
        orders.clear()
        burials[0][1] = 9
        backs[0][1][0] = "z"
        for item in told(patch)[1:]:
            item.clear()
        self.assertTrue(exact(told(patch), wanted))


if __name__ == "__main__":
    unittest.main()
