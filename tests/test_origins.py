"""Points 95, 96 and tried_parts of 97: what befell a line, by whom, and what can be tried."""

import unittest

from patchlots.errors import NoLine
from patchlots.histories import histories
from patchlots.lots import Lot, page_of
from patchlots.origins import ahead_by, dead_by, story_of, tried_parts
from patchlots.patches import Patch
from patchlots.reading import is_ahead
from tests.helping import (
    A, B, C, D, JUNK, as_lists, caught, exact, least_in, page_of_part, random_lot, random_short_lot, seeds, slow_aheads,
    slow_parts, slow_reads,
)

LOT = Lot([A, B, C, D])
A0, A1, B0 = ("a", 0), ("a", 1), ("b", 0)


def drawn_lots(count):
    for rng in seeds(count):
        yield rng, random_lot(rng, 5) if rng.random() < 0.4 else random_short_lot(rng, 5, 3, 0.4)


class Stories(unittest.TestCase):
    def test_plain(self):
        self.assertTrue(exact(story_of(LOT, ["a", 0]), [("a", "put", None), ("c", "buried", None), ("d", "undone", "c")]))
        self.assertEqual(story_of(line=B0, lot=LOT), [("b", "put", None)])

    def test_told_by_the_first_history(self):
        lot = Lot([A, Patch("z", [], burials=[A0]), Patch("x", [], burials=[A0]), Patch("b", [], [], [A0], [("z", A0), ("x", A0)]),
                   Patch("c", [], [], [A0]), Patch("d", [], [(A0, A1)], [A1], [("c", A0)])])
        wanted = [("a", "put", None), ("c", "buried", None), ("d", "undone", "c"), ("x", "buried", None), ("z", "buried", None),
                  ("b", "buried", None), ("b", "undone", "x"), ("b", "undone", "z")]
        self.assertTrue(exact(story_of(lot, A0), wanted))

    def test_no_line(self):
        for thing in JUNK + [3, "", "a0", ("a", 2), ("e", 0), ("a", False)]:
            self.assertIs(caught(NoLine, story_of, LOT, thing).line, thing)
            self.assertIs(caught(NoLine, dead_by, LOT, thing).line, thing)
            self.assertIs(caught(NoLine, ahead_by, LOT, thing, None).line, thing)
            self.assertIs(caught(NoLine, ahead_by, LOT, A0, thing).line, thing)

    def test_by_definition(self):
        longest = 0
        for _, lot in drawn_lots(100):
            for line in page_of(lot).lines():
                wanted = []
                for name in histories(lot)[0]:
                    patch = lot.patch_of(name)
                    wanted += [(name, "put", None)] * (line in patch.own_lines())
                    wanted += [(name, "buried", None)] * (line in patch.burials())
                    wanted += [(name, "undone", other) for other in lot.names() if (other, line) in patch.backs()]
                self.assertTrue(exact(story_of(lot, as_lists(line)), wanted))
                longest = max(longest, len(wanted))
        self.assertGreater(longest, 4)


class ByWhom(unittest.TestCase):
    def test_ahead_by(self):
        self.assertTrue(exact(ahead_by(LOT, A0, ["b", 0]), [["a", "b"]]))
        self.assertTrue(exact(ahead_by(other=A0, one=A1, lot=LOT), []))
        ground = Patch("g", ["x", "y", "z"])
        x, y, z = ground.own_lines()
        lot = Lot([ground, Patch("a", [], [(x, y)]), Patch("b", [], [(y, z)]), Patch("c", [], [(x, z)]), Patch("d", [], [(z, x)])])
        self.assertEqual(ahead_by(lot, x, z), [["c", "g"], ["a", "b", "g"]])
        self.assertEqual(ahead_by(lot, x, x), [["c", "d", "g"], ["a", "b", "d", "g"]])
        self.assertEqual(ahead_by(lot, y, y), [["a", "b", "d", "g"]])

    def test_dead_by(self):
        self.assertTrue(exact(dead_by(LOT, A0), [["a", "c"]]))
        self.assertTrue(exact(dead_by(line=("b", 0), lot=LOT), []))
        lot = Lot([A, C, D, Patch("e", ["q"], [(A0, ("e", 0))], [A0])])
        self.assertEqual(dead_by(lot, A0), [["a", "c"], ["a", "e"]])

    def test_by_definition_and_facts(self):
        met = {"ahead": 0, "dead": 0, "live again": 0}
        for rng, lot in drawn_lots(60):
            parts = slow_parts(lot)
            pages = [page_of_part(lot, names) for names in parts]
            ways = [slow_aheads(page) for page in pages]
            lines = list(page_of(lot).lines())
            for one in lines:
                wanted = least_in([names for names, page in zip(parts, pages) if one in page.dead()])
                self.assertTrue(exact(dead_by(lot, one), wanted))
                met["dead"] += len(wanted)
                for names, page in zip(parts, pages):
                    if any(set(less) <= set(names) for less in wanted) and one in page.live():
                        met["live again"] += 1
                # The least part with the patch of the line has it live.
                self.assertFalse(any(wanted_names == min([names for names in parts if one[0] in names], key=len) for wanted_names in wanted))
            for one, other in [(rng.choice(lines), rng.choice(lines)) for _ in range(8)] if lines else []:
                told = ahead_by(lot, one, other)
                self.assertTrue(exact(told, least_in([names for names, found in zip(parts, ways) if (one, other) in found])))
                for names, found in zip(parts, ways):
                    self.assertEqual((one, other) in found, any(set(less) <= set(names) for less in told))
                self.assertEqual(told != [], is_ahead(page_of(lot), one, other))
                met["ahead"] += len(told)
        self.assertGreater(min(met.values()), 20)


class Tried(unittest.TestCase):
    def test_by_definition(self):
        kept = 0
        for _, lot in drawn_lots(60):
            wanted = [names for names in slow_parts(lot) if slow_reads(page_of_part(lot, names))]
            self.assertTrue(exact(tried_parts(lot=lot), wanted))
            kept += 0 < len(wanted) < len(slow_parts(lot))
        self.assertGreater(kept, 20)
        self.assertEqual(tried_parts(Lot([])), [[]])


if __name__ == "__main__":
    unittest.main()
