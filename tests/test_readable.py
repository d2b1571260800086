"""Points 55 and 56: which parts read, and which end a clash."""

import unittest
from itertools import combinations

from patchlots.clashes import clashes
from patchlots.errors import NoClash, NoPart
from patchlots.lots import Lot
from patchlots.patches import Patch
from patchlots.readable import (
    greatest_readable, least_ends, least_unreadable, odd_pairs, readable_parts,
)
from tests.helping import (
    JUNK, A, B, C, D, as_lists, caught, exact, greatest_in, least_in, page_of_part, random_lot,
    random_short_lot, seeds, slow_aheads, slow_parts, slow_reads,
)

GROUND = Patch("a", ["x", "y", "z"])
X, Y, Z = GROUND.own_lines()
B1, C1, D1 = Patch("b", [], [(X, Y)]), Patch("c", [], [(Y, Z)]), Patch("d", [], [(Z, X)])
LOT = Lot([GROUND, B1, C1, D1])


def slow_has(page, clash):
    """Whether a page has a clash: a knot is there still if its lines are a knot, one of them live."""
    ahead = slow_aheads(page)
    if clash[0] == "apart":
        return (set(clash[1:]) <= set(page.live()) and (clash[1], clash[2]) not in ahead
                and (clash[2], clash[1]) not in ahead)
    around = {line for line in page.lines() if (line, clash[1][0]) in ahead and (clash[1][0], line) in ahead}
    return around == set(clash[1]) and bool(around & set(page.live()))


class Readable(unittest.TestCase):
    def test_the_example_of_59(self):
        three = [["a", "b", "c"], ["a", "b", "d"], ["a", "c", "d"]]
        self.assertTrue(exact(readable_parts(LOT), [[]] + three))
        self.assertTrue(exact(greatest_readable(lot=LOT), three))
        self.assertTrue(exact(least_unreadable(lot=LOT), [["a"]]))
        self.assertTrue(exact(odd_pairs(LOT), []))

    def test_lots_that_read(self):
        empty = Lot([])
        self.assertTrue(exact([readable_parts(empty), least_unreadable(empty), greatest_readable(empty),
                               odd_pairs(empty)], [[[]], [], [[]], []]))
        lot = Lot([A, B, C, D])
        self.assertTrue(exact(readable_parts(lot=lot), slow_parts(lot)))
        self.assertTrue(exact([least_unreadable(lot), greatest_readable(lot), odd_pairs(lot=lot)],
                              [[], [list("abcd")], []]))

    def test_odd_pairs(self):
        one, other, third = Patch("p", ["p"]), Patch("q", ["q"]), Patch("r", ["r"])
        self.assertTrue(exact(odd_pairs(Lot([third, other, one])), [("p", "q"), ("p", "r"), ("q", "r")]))
        self.assertEqual(odd_pairs(Lot([one, other, Patch("o", [], [(("p", 0), ("q", 0))])])), [("p", "q")])

    def test_by_definition(self):
        odd = 0
        for number, rng in enumerate(seeds(200)):
            lot = random_lot(rng, 6) if number % 3 == 0 else random_short_lot(rng, 6, 3)
            parts = slow_parts(lot)
            reads = [names for names in parts if slow_reads(page_of_part(lot, names))]
            unread = [names for names in parts if names not in reads]
            self.assertTrue(exact(readable_parts(lot), reads))
            self.assertTrue(exact(least_unreadable(lot), least_in(unread)))
            self.assertTrue(exact(greatest_readable(lot), greatest_in(reads)))

            def least(names):
                return next(part for part in parts if set(names) <= set(part))

            wanted = [(one, other) for one, other in combinations(lot.names(), 2)
                      if least([one]) in reads and least([other]) in reads and least([one, other]) in unread]
            self.assertTrue(exact(odd_pairs(lot), wanted))
            odd += len(wanted) > 0
        self.assertGreater(odd, 20)

    def test_facts(self):
        # What reads has a part that does not, and is part of what does not.
        self.assertIn(["a", "b", "c"], readable_parts(LOT))
        self.assertNotIn(["a", "b"], readable_parts(LOT))
        self.assertNotIn(list("abcd"), readable_parts(LOT))
        # No odd pair, though the lot does not read.
        self.assertEqual([odd_pairs(LOT), readable_parts(LOT)[-1]], [[], ["a", "c", "d"]])

    def test_new_each_time(self):
        for call in (readable_parts, greatest_readable, least_unreadable):
            call(LOT)[-1].append("q")
            call(LOT).clear()
        self.assertEqual([readable_parts(LOT)[-1], least_unreadable(LOT)], [["a", "c", "d"], [["a"]]])


class Ends(unittest.TestCase):
    def test_ends_of_apart_lines(self):
        told = least_ends(LOT, ["a"], ("apart", X, Y))
        self.assertTrue(exact(told, [["a", "b"], ["a", "c", "d"]]))
        self.assertTrue(exact(least_ends(clash=["apart", ["a", 0], ["a", 1]], names=("a",), lot=LOT), told))
        bury = Patch("e", [], [], [X])
        self.assertEqual(least_ends(Lot([GROUND, B1, bury]), ["a"], ("apart", X, Z)), [["a", "e"]])
        self.assertEqual(least_ends(Lot([GROUND, B1, bury]), ["b", "a"], ("apart", Y, Z)), [])

    def test_ends_of_knots(self):
        ring = Patch("r", ["x", "y"], [(("r", 0), ("r", 1)), (("r", 1), ("r", 0))])
        p, q = ring.own_lines()
        knot = ("knot", (p, q))
        self.assertEqual(least_ends(Lot([ring]), ["r"], knot), [])
        one, both = Patch("b", [], [], [p]), Patch("c", [], [], [q])
        self.assertEqual(least_ends(Lot([ring, one]), ["r"], knot), [])
        self.assertEqual(least_ends(Lot([ring, one, both]), ("r",), ["knot", [["r", 0], ["r", 1]]]), [["b", "c", "r"]])
        more = Patch("m", ["z"], [(p, ("m", 0)), (("m", 0), q)])
        self.assertEqual(least_ends(Lot([ring, one, more]), ["r"], knot), [["m", "r"]])
        # Lines that come back: an end that is none in a greater part.
        back = Patch("d", [], [], [], [("c", q)])
        lot = Lot([ring, one, both, back])
        self.assertEqual(least_ends(lot, ["r"], knot), [["b", "c", "r"]])
        self.assertEqual(least_ends(lot, ["c", "d", "r"], knot), [])
        self.assertEqual(least_ends(lot, ["c", "r"], knot), [["b", "c", "r"]])

    def test_no_part(self):
        for thing in JUNK + ["a", "", ["b"], ["a", "a"], ["a", "e"], ["a", None], ["a", ["b"]], {"a": 1}, A, ["a", "b", "a"],
                             [["a"]], ["b", "c", "d"]]:
            self.assertIs(caught(NoPart, least_ends, LOT, thing, None).thing, thing)
        self.assertEqual(least_ends(LOT, ("c", "a"), ("apart", X, Y)), [["a", "b", "c"], ["a", "c", "d"]])
        self.assertEqual(caught(NoPart, least_ends, Lot([]), ["a"], None).thing, ["a"])

    def test_no_clash(self):
        for thing in JUNK + [(), [], "apart", ("apart",), ("apart", X), ("apart", X, Y, Z), ("apart", Y, X), ("apart", X, X),
                             ("knot", (X, Y, Z)), ("knot", X, Y), ("knot",), ("knot", []), ("knot", (X,)), ("knot", None),
                             ("apart", X, ("a", 3)), ("apart", X, None), (None, X, Y), ("far", X, Y), {"apart": 1},
                             ("apart", (X, Y)), (["apart"], X, Y), (A, X, Y), ("apart", None, Y), ("apart", ("a", False), Y),
                             ("apart", X, ("a", True)), ("apart", "a0", Y), ("apart", X, {1: 2})]:
            self.assertIs(caught(NoClash, least_ends, LOT, ["a"], thing).thing, thing)
        whole = list("abcd")
        self.assertEqual(least_ends(LOT, whole, ("knot", (X, Y, Z))), [])
        for thing in (("knot", (Y, X, Z)), ("knot", (X, Y)), ("knot", (X, Y, Z, Z)), ("apart", X, Y), ("knot", ("a", 0)),
                      ("knot", {X: 1, Y: 1, Z: 1}), ("knot", (X, Y, Z), ()), ("knot", (X, Y, ("a", True))), ("knot", (X, ("a", True), Z)), ("knot", (X, None, Z)), ("apart", (X, Y, Z)),
                      ("far", (X, Y, Z)), (None, (X, Y, Z)), ("knot", [X, 1, Z])):
            self.assertIs(caught(NoClash, least_ends, LOT, whole, thing).thing, thing)
        self.assertEqual(caught(NoClash, least_ends, Lot([]), [], ("apart", X, Y)).thing, ("apart", X, Y))

    def test_by_definition_and_facts(self):
        ended = unended = returning = 0
        for rng in seeds(120):
            lot = random_short_lot(rng, 5, 3)
            parts = slow_parts(lot)
            pages = [page_of_part(lot, names) for names in parts]
            for names, page in zip(parts, pages):
                told = names[::-1] if rng.random() < 0.5 else tuple(names)
                for clash in clashes(page):
                    wanted = [more for more, other in zip(parts, pages)
                              if set(names) <= set(more) and not slow_has(other, clash)]
                    given = as_lists(clash) if rng.random() < 0.5 else clash
                    found = least_ends(lot, told, given)
                    self.assertTrue(exact(found, least_in(wanted)))
                    ended += len(found) > 0
                    unended += len(found) == 0
                    greater = [more for more in parts if any(set(end) <= set(more) for end in found)]
                    returning += any(more not in wanted for more in greater)
        self.assertGreater(min(ended, unended, returning), 10)


if __name__ == "__main__":
    unittest.main()
