"""Points 87 to 89: patches taken out, inverses, and what tells both apart now and later."""

import unittest
from itertools import product

from patchlots.errors import BadCalled, NoPatch, StillNeeded
from patchlots.inverses import (
    apart_later, apart_now, inverse_of, shows_later, taken_out, with_inverse,
)
from patchlots.lots import Lot, page_of
from patchlots.patches import Patch
from patchlots.reading import reading
from tests.helping import A, B, C, D, JUNK, caught, exact, random_lot, random_short_lot, seeds, slow_aheads

LOT = Lot([A, B, C, D])
A0, A1, B0 = ("a", 0), ("a", 1), ("b", 0)


def with_more(lot, *patches):
    return Lot([lot.patch_of(name) for name in lot.names()] + list(patches))


def last_names(lot):
    return [name for name in lot.names() if not any(name in lot.patch_of(other).needs() for other in lot.names())]


def random_lots(count):
    """Lots with the name of a last patch, in turn."""
    for rng in seeds(count):
        lot = random_lot(rng) if rng.random() < 0.4 else random_short_lot(rng, 5, 3, 0.5, 0.4)
        undoing = [Patch(name, [], backs=[(by, line) for by in lot.names() for line in lot.patch_of(by).burials()
                                          if rng.random() < 0.7]) for name in ("u0", "u1")]
        lot = with_more(lot, *undoing[:rng.choice([0, 0, 1, 2])])
        for name in last_names(lot):
            yield rng, lot, name


def random_later(rng, lot, name, called="later"):
    """A patch that has what it needs in the lot without one, many of its lines being of the others."""
    others = [lot.patch_of(other) for other in lot.names() if other != name]
    own = [(called, number) for number in range(rng.choice([0, 1, 2]))]
    lines = [line for patch in others for line in patch.own_lines()]
    pairs = [pair for pair in product(lines + own, repeat=2) if pair[0] != pair[1]]
    orders = rng.sample(pairs, min(len(pairs), rng.randint(0, 3)))
    burials = [line for line in lines if rng.random() < 0.6]
    backs = [(patch.called(), line) for patch in others for line in patch.burials() if rng.random() < 0.5]
    return Patch(called, [""] * len(own), orders, burials, backs)


class Away(unittest.TestCase):
    def test_taken_out(self):
        self.assertEqual(taken_out(LOT, "d"), Lot([A, B, C]))
        self.assertEqual(taken_out(name="b", lot=LOT), Lot([A, C, D]))
        self.assertEqual(taken_out(Lot([A]), "a"), Lot([]))
        self.assertEqual(LOT, Lot([A, B, C, D]))

    def test_errors_of_all(self):
        calls = [taken_out, lambda lot, name: with_inverse(lot, name, None), lambda lot, name: apart_now(lot, name, None),
                 lambda lot, name: apart_later(lot, name, None), lambda lot, name: shows_later(lot, name, None, None)]
        for call in calls:
            for thing in JUNK + [3, "", "e", "z", ["a"], ("a",), A0]:
                self.assertIs(caught(NoPatch, call, LOT, thing).name, thing)
            for name, other in (("a", "b"), ("c", "d")):
                why = caught(StillNeeded, call, LOT, name)
                self.assertEqual([why.name, why.other], [name, other])
            self.assertEqual(caught(StillNeeded, call, Lot([A, C, D]), "a").other, "c")

    def test_bad_called(self):
        for thing in JUNK + [3, "", ["z"], "a", "b", "c", "d"]:
            for call in (with_inverse, apart_now, apart_later):
                self.assertIs(caught(BadCalled, call, LOT, "d", thing).thing, thing)
            self.assertIs(caught(BadCalled, shows_later, LOT, "d", thing, None).thing, thing)
        patch = Patch("d", ["x"], [(("d", 0), ("a", 3))], [("b", 2)], [("c", ("e", 0))])
        for thing in JUNK + [3, "", ["z"], "a", "b", "c", "d", "e"]:
            self.assertIs(caught(BadCalled, inverse_of, patch, thing).thing, thing)


class Inverses(unittest.TestCase):
    def test_inverse_of(self):
        patch = Patch("d", ["x", "y"], [(("d", 0), ("a", 3))], [("b", 2), ("a", 1)], [("c", ("e", 0)), ("b", ("e", 0)), ("c", ("a", 1))])
        wanted = Patch("z", [], [], [("a", 1), ("d", 0), ("d", 1), ("e", 0)], [("d", ("a", 1)), ("d", ("b", 2))])
        self.assertEqual(inverse_of(patch, "z"), wanted)
        self.assertEqual(inverse_of(called="q", patch=A), Patch("q", [], [], [A0, A1]))
        self.assertEqual(inverse_of(C, "d"), D)
        self.assertEqual(inverse_of(D, "z"), Patch("z", [], burials=[A0]))
        self.assertEqual(inverse_of(Patch("a", []), "b"), Patch("b", []))

    def test_with_inverse(self):
        self.assertEqual(with_inverse(LOT, "d", "z"), with_more(LOT, Patch("z", [], burials=[A0])))
        self.assertEqual(with_inverse(lot=Lot([A, B, C]), called="d", name="c"), LOT)
        for _, lot, name in random_lots(40):
            self.assertEqual(with_inverse(lot, name, "z"), with_more(lot, inverse_of(lot.patch_of(name), "z")))


class Now(unittest.TestCase):
    def test_plain(self):
        self.assertIsNone(apart_now(called="z", lot=LOT, name="d"))
        self.assertIsNone(apart_now(LOT, "b", "z"))
        lines = Patch("a", ["x", "y"])
        order = Patch("e", [], [(A0, A1)])
        self.assertTrue(exact(apart_now(Lot([lines, order]), "e", "z"), ("ahead", A0, A1)))
        # Two undo one burial: with the inverse of one of them the line is dead, without it it is live.
        self.assertTrue(exact(apart_now(with_more(LOT, Patch("e", [], backs=[("c", A0)])), "d", "z"), ("live", A0)))
        ring = Patch("e", ["m"], [(A1, ("e", 0)), (("e", 0), A0)])
        self.assertEqual(apart_now(Lot([A, ring]), "e", "z"), ("ahead", A0, A0))

    def test_by_definition_and_facts(self):
        met = {}
        for _, lot, name in random_lots(250):
            one, other = page_of(with_inverse(lot, name, "z")), page_of(taken_out(lot, name))
            lone = sorted(set(one.live()) ^ set(other.live()))
            ways, others = slow_aheads(one), slow_aheads(other)
            pairs = [(i, j) for i, j in product(one.live(), repeat=2) if ((i, j) in ways) != ((i, j) in others)]
            wanted = ("live", lone[0]) if lone else ("ahead", *pairs[0]) if pairs else None
            self.assertTrue(exact(apart_now(lot, name, "z"), wanted))
            self.assertTrue(others <= ways)
            patch = lot.patch_of(name)
            if lone:
                twice = [line for by, line in patch.backs()
                         if any((by, line) in lot.patch_of(more).backs() for more in lot.names() if more != name)]
                self.assertTrue(set(lone) <= set(twice))
            elif pairs:
                self.assertNotEqual(patch.orders(), [])
            kind = None if wanted is None else wanted[0] + "twice" * (wanted[1:2] == wanted[2:])
            met[kind] = met.get(kind, 0) + 1
        self.assertGreater(min(met[kind] for kind in (None, "live", "ahead", "aheadtwice")), 4)


class Later(unittest.TestCase):
    def check_shown(self, lot, name, called, patch):
        """The patch by definition tells both apart."""
        self.assertIsInstance(patch, Patch)
        self.assertNotIn(patch.called(), lot)
        self.assertNotEqual(patch.called(), called)
        pages = [page_of(with_more(made, patch)) for made in (with_inverse(lot, name, called), taken_out(lot, name))]
        self.assertNotEqual(reading(pages[0]), reading(pages[1]))

    def test_plain(self):
        self.assertIsNone(apart_later(Lot([A, B, C]), "c", "z"))
        self.assertIsNone(apart_later(lot=LOT, called="z", name="b"))
        # With the inverse of what undoes a burial the line can't come back by undoing that burial.
        self.check_shown(LOT, "d", "z", apart_later(LOT, "d", "z"))
        self.assertIs(shows_later(LOT, "d", "z", Patch("e", [], [], [B0], [("c", A0)])), True)
        self.assertIs(shows_later(LOT, "d", "z", Patch("e", [], [], [B0])), False)
        order = Patch("e", [], [(A0, A1)])
        lot = Lot([Patch("a", ["x", "y"]), order])
        self.check_shown(lot, "e", "later0", apart_later(lot, "e", "later0"))
        self.assertIs(shows_later(called="z", thing=Patch("w", []), name="e", lot=lot), True)

    def test_what_is_dead_can_be_brought_back(self):
        ground = Patch("a", ["x", "y"])
        lot = Lot([ground, Patch("b", [], burials=[A0, A1]), Patch("e", [], [(A0, A1)])])
        self.assertIsNone(apart_now(lot, "e", "z"))
        self.check_shown(lot, "e", "z", apart_later(lot, "e", "z"))
        ring = Lot([Patch("a", ["x", "y"], [(A1, A0)]), Patch("b", [], burials=[A0, A1]), Patch("e", [], [(A0, A1)])])
        self.assertIsNone(apart_now(ring, "e", "z"))
        self.check_shown(ring, "e", "z", apart_later(ring, "e", "z"))

    def test_of_no_later_patch(self):
        lot = Lot([A, B, C, D, Patch("later0", ["q"])])
        for thing in JUNK + [A, D, Patch("z", [], [], [B0], [("c", A0)]), Patch("d", [], [], [B0], [("c", A0)]),
                             Patch("e", [], [], [B0], [("c", A0), ("b", A1)]), Patch("e", [], [], [B0, ("q", 0)], [("c", A0)]),
                             Patch("e", [], [(A0, ("a", 2))], [B0], [("c", A0)]), Patch("b", [], [], [A1], [("c", A0)]),
                             [Patch("e", [], [], [B0], [("c", A0)])], "e", 3]:
            self.assertIs(shows_later(LOT, "d", "z", thing), False)
        self.assertIs(shows_later(lot, "d", "z", Patch("e", [], [], [B0, ("later0", 0)], [("c", A0)])), True)
        self.check_shown(lot, "d", "later1", apart_later(lot, "d", "later1"))
        own = Lot([Patch("a", ["x", "y"]), Patch("e", ["m"], [(A0, ("e", 0)), (("e", 0), A1)])])
        self.assertIs(shows_later(own, "e", "z", Patch("w", [], [(A1, ("e", 0))])), False)
        self.assertIs(shows_later(own, "e", "z", Patch("w", [], burials=[("e", 0)])), False)
        self.assertIs(shows_later(own, "e", "z", Patch("w", [])), True)

    def test_by_definition_and_it_holds(self):
        met = {}
        for rng, lot, name in random_lots(150):
            one, other = page_of(with_inverse(lot, name, "z")), page_of(taken_out(lot, name))
            patch = lot.patch_of(name)
            lines = other.lines()
            ways = {pair for pair in slow_aheads(one) if pair[0] in lines and pair[1] in lines}
            found = apart_later(lot, name, "z")
            self.assertEqual(found is None, not patch.backs() and ways == slow_aheads(other))
            self.assertEqual(found, apart_later(lot, name, "z"))
            met[found is None] = met.get(found is None, 0) + 1
            if found is not None:
                self.check_shown(lot, name, "z", found)
                self.assertIs(shows_later(lot, name, "z", found), True)
            for _ in range(3):
                later = random_later(rng, lot, name)
                pages = [page_of(with_more(made, later)) for made in (with_inverse(lot, name, "z"), taken_out(lot, name))]
                unlike = reading(pages[0]) != reading(pages[1])
                self.assertIs(shows_later(lot, name, "z", later), unlike)
                met[unlike, found is None] = met.get((unlike, found is None), 0) + 1
                # Nor do lots of later patches, and of what needs them, tell them apart.
                if found is None:
                    behind = with_more(taken_out(lot, name), later)
                    more = random_later(rng, behind, None, "more")
                    readings = [reading(page_of(with_more(made, later, more)))
                                for made in (with_inverse(lot, name, "z"), taken_out(lot, name))]
                    self.assertEqual(readings[0], readings[1])
        self.assertGreater(min(met[key] for key in (True, False, (True, False), (False, False), (False, True))), 30)
        self.assertNotIn((True, True), met)


if __name__ == "__main__":
    unittest.main()
