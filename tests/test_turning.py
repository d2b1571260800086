"""Points 53 and 54: which parts turn, and which order two lines."""

import unittest
from itertools import combinations

from patchlots.clashes import knots
from patchlots.errors import NoLine
from patchlots.lots import Lot
from patchlots.patches import Patch
from patchlots.turning import greatest_straight, greatest_unordered, least_ordering, least_turning
from tests.helping import (
    JUNK, A, B, C, D, as_lists, caught, exact, greatest_in, least_in, page_of_part, random_lot,
    random_short_lot, seeds, slow_aheads, slow_parts,
)

GROUND = Patch("a", ["x", "y", "z"])
X, Y, Z = GROUND.own_lines()
B1, C1, D1 = Patch("b", [], [(X, Y)]), Patch("c", [], [(Y, Z)]), Patch("d", [], [(Z, X)])
LOT = Lot([GROUND, B1, C1, D1])


def simple_rings(orders):
    """All lists of unlike lines, each ordered ahead of the next, the last one ahead of the first."""
    found = []
    rows = [[one] for one in sorted({one for one, _ in orders})]
    while rows:
        row = rows.pop()
        for one, other in orders:
            if one == row[-1] and other == row[0]:
                found.append(row)
            elif one == row[-1] and other > row[0] and other not in row:
                rows.append(row + [other])
    return found


class Turning(unittest.TestCase):
    def test_the_example_of_59(self):
        self.assertTrue(exact(least_turning(LOT), [["a", "b", "c", "d"]]))
        self.assertTrue(exact(greatest_straight(lot=LOT), [["a", "b", "c"], ["a", "b", "d"], ["a", "c", "d"]]))

    def test_lots_that_do_not_turn_or_turn_at_once(self):
        self.assertTrue(exact(least_turning(Lot([])), []))
        self.assertTrue(exact(greatest_straight(Lot([])), [[]]))
        self.assertEqual([least_turning(Lot([A, B, C, D])), greatest_straight(Lot([A, B, C, D]))], [[], [list("abcd")]])
        ring = Patch("r", ["x", "y"], [(("r", 0), ("r", 1)), (("r", 1), ("r", 0))])
        lot = Lot([ring, Patch("q", []), Patch("s", [], [], [("r", 0), ("r", 1)])])
        self.assertEqual([least_turning(lot=lot), greatest_straight(lot)], [[["r"]], [["q"]]])

    def test_a_lot_that_turns_by_dead_lines_alone(self):
        bury = Patch("e", [], [], [X, Y])
        lot = Lot([GROUND, bury, B1, Patch("f", [], [(Y, X)])])
        self.assertEqual(least_turning(lot), [["a", "b", "f"]])
        self.assertEqual(greatest_straight(lot), [["a", "b", "e"], ["a", "e", "f"]])

    def test_by_definition_and_it_holds(self):
        several = 0
        for number, rng in enumerate(seeds(200)):
            lot = random_lot(rng, 6) if number % 3 == 0 else random_short_lot(rng, 7, 4, 0.9)
            parts = slow_parts(lot)
            turns = [names for names in parts
                     if any(one == other for one, other in slow_aheads(page_of_part(lot, names)))]
            straight = [names for names in parts if names not in turns]
            least, greatest = least_turning(lot), greatest_straight(lot)
            self.assertTrue(exact(least, least_in(turns)))
            self.assertTrue(exact(greatest, greatest_in(straight)))
            several += len(least) > 1
            for names in parts:
                self.assertEqual(names in turns, any(set(told) <= set(names) for told in least))
                self.assertEqual(names in turns, not any(set(names) <= set(told) for told in greatest))
            self.assertEqual(least, least_in([names for names in parts
                                              if not any(set(names) <= set(told) for told in greatest)]))
            self.assertEqual(greatest, greatest_in([names for names in parts
                                                    if not any(set(told) <= set(names) for told in least)]))
        self.assertGreater(several, 25)

    def test_facts(self):
        for rng in seeds(120):
            lot = random_short_lot(rng, 6, 4, 0.9)
            for names in least_turning(lot):
                patches = [lot.patch_of(name) for name in names]
                needed = {need for patch in patches for need in patch.needs()}
                rings = simple_rings(sorted({order for patch in patches for order in patch.orders()}))
                self.assertGreater(len(rings), 0)
                for patch in patches:
                    if patch.called() not in needed:
                        for ring in rings:
                            steps = {(ring[at - 1], ring[at]) for at in range(len(ring))}
                            self.assertTrue(steps & set(patch.orders()))
        for two in combinations([B1, C1, D1], 2):
            self.assertEqual(least_turning(Lot([GROUND, *two])), [])
        self.assertEqual(knots(page_of_part(LOT, list("abcd"))), [[X, Y, Z]])

    def test_new_each_time(self):
        for call in (least_turning, greatest_straight):
            call(LOT)[0].clear()
            call(LOT).clear()
        self.assertEqual([len(least_turning(LOT)[0]), len(greatest_straight(LOT))], [4, 3])


class Ordering(unittest.TestCase):
    def test_the_example_of_59(self):
        self.assertTrue(exact(least_ordering(LOT, X, Z), [["a", "d"], ["a", "b", "c"]]))
        self.assertTrue(exact(least_ordering(other=["a", 0], one=["a", 2], lot=LOT), [["a", "d"], ["a", "b", "c"]]))
        self.assertTrue(exact(greatest_unordered(LOT, X, Z), [["a", "b"], ["a", "c"]]))
        self.assertTrue(exact(greatest_unordered(other=X, one=Z, lot=LOT), [["a", "b"], ["a", "c"]]))

    def test_lines_of_different_patches(self):
        p, q = Patch("p", ["p"]), Patch("q", ["q"])
        lot = Lot([p, q])
        self.assertEqual(least_ordering(lot, ("p", 0), ("q", 0)), [])
        self.assertEqual(greatest_unordered(lot, ("p", 0), ("q", 0)), [["p", "q"]])
        r = Patch("r", ["r"], [(("p", 0), ("r", 0)), (("r", 0), ("q", 0))])
        lot = Lot([p, q, r])
        self.assertEqual(least_ordering(lot, ("q", 0), ("p", 0)), [["p", "q", "r"]])
        self.assertEqual(greatest_unordered(lot, ("q", 0), ("p", 0)), [["p", "q"]])
        self.assertEqual(greatest_unordered(lot, ("r", 0), ("p", 0)), [])
        self.assertEqual(greatest_unordered(Lot([A, B]), ("a", 0), ("a", 1)), [])
        self.assertEqual(least_ordering(Lot([A, B]), ("a", 1), ("a", 0)), [["a"]])

    def test_no_line(self):
        for call in (least_ordering, greatest_unordered):
            for thing in JUNK + [("a", 3), ("b", 0), "a.0", "a", 0, GROUND]:
                self.assertIs(caught(NoLine, call, LOT, thing, thing).line, thing)
                self.assertIs(caught(NoLine, call, LOT, X, thing).line, thing)
                self.assertIs(caught(NoLine, call, LOT, thing, None).line, thing)
            for thing in (("a", 0), ["a", 0]):
                self.assertIs(caught(NoLine, call, LOT, X, thing).line, thing)
                self.assertIs(caught(NoLine, call, LOT, ["a", 0], thing).line, thing)
            self.assertEqual(caught(NoLine, call, Lot([]), X, Y).line, X)

    def test_by_definition_and_it_holds(self):
        some = 0
        for rng in seeds(80):
            lot = random_short_lot(rng, 5, 3)
            parts = slow_parts(lot)
            lines = [line for name in lot.names() for line in lot.patch_of(name).own_lines()]
            for one, other in combinations(lines, 2):
                both = [names for names in parts if one[0] in names and other[0] in names]
                ordered = []
                for names in both:
                    ahead = slow_aheads(page_of_part(lot, names))
                    if (one, other) in ahead or (other, one) in ahead:
                        ordered.append(names)
                least = least_ordering(lot, as_lists(one), other)
                greatest = greatest_unordered(lot, other, one)
                self.assertTrue(exact(least, least_in(ordered)))
                self.assertTrue(exact(greatest, greatest_in([names for names in both if names not in ordered])))
                some += len(least) > 1
                for names in both:
                    self.assertEqual(names in ordered, any(set(told) <= set(names) for told in least))
                    self.assertEqual(names in ordered, not any(set(names) <= set(told) for told in greatest))
        self.assertGreater(some, 20)

    def test_fact_of_who_orders(self):
        ground, third = Patch("g", ["x", "y"]), Patch("t", ["z"])
        one = Patch("o", [], [(("g", 0), ("t", 0))])
        other = Patch("p", [], [(("t", 0), ("g", 1))])
        lot = Lot([ground, third, one, other])
        self.assertEqual(least_ordering(lot, ("g", 0), ("g", 1)), [["g", "o", "p", "t"]])
        x, y, z = Patch("x", [""]), Patch("y", [""]), Patch("z", [""])
        one, other = Patch("o", [], [(("x", 0), ("z", 0))]), Patch("p", [], [(("z", 0), ("y", 0))])
        self.assertEqual(least_ordering(Lot([x, y, z, one, other]), ("x", 0), ("y", 0)), [["o", "p", "x", "y", "z"]])
        self.assertEqual([one.needs(), other.needs()], [["x", "z"], ["y", "z"]])


if __name__ == "__main__":
    unittest.main()
