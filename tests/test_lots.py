"""Points 21 to 23: lots, their pages, lots put together (sent_to: tests of needs)."""

import unittest
from itertools import permutations, product

from patchlots.errors import BadPatches, Lacks, NoLine, NoPatch, Parted, Round
from patchlots.lots import Lot, burials_at, page_of
from patchlots.pages import Page
from patchlots.patches import Patch
from patchlots.reading import text_of
from tests.helping import JUNK, A, B, C, D, caught, exact, random_lot, random_patches, seeds

A0, A1, B0, C0, D0 = ("a", 0), ("a", 1), ("b", 0), ("c", 0), ("d", 0)


class Lots(unittest.TestCase):
    def test_told(self):
        lot = Lot([D, B, A, C])
        self.assertTrue(exact(lot.names(), ["a", "b", "c", "d"]))
        self.assertTrue(exact(len(lot), 4))
        self.assertEqual([lot.patch_of(name) for name in "abcd"], [A, B, C, D])
        self.assertEqual(lot.patch_of(name="c"), C)
        self.assertEqual(Lot(patches=(A, C)).names(), ["a", "c"])
        for thing in JUNK + ["e", "", ["a"], ("a",), A, lot, 0, {}, []]:
            self.assertIs(thing in lot, False)
            self.assertIs(caught(NoPatch, lot.patch_of, thing).name, thing)
        self.assertIs("a" in lot, True)

    def test_empty_lot(self):
        for lot in (Lot([]), Lot(())):
            self.assertTrue(exact([lot.names(), len(lot), page_of(lot)], [[], 0, Page({}, [], [])]))
            self.assertIs("a" in lot, False)

    def test_equal_and_nothing_else(self):
        self.assertIs(Lot([A, B]) == Lot((B, A)), True)
        self.assertIs(Lot([A, B]) != Lot((B, A)), False)
        self.assertIs(Lot([A, B]) == Lot([A]), False)
        self.assertIs(Lot([A]) == Lot([Patch("a", ["x", "z"], [(A0, A1)])]), False)
        for thing in JUNK + [[A], A, ["a"], "a", page_of(Lot([A]))]:
            self.assertIs(Lot([A]) == thing, False)
        self.assertIs(Lot([]) == [], False)

    def test_later_changes_have_no_effect(self):
        patches = [A, B]
        lot = Lot(patches)
        patches.append(C)
        patches[0] = D
        lot.names().clear()
        self.assertEqual(lot, Lot([A, B]))
        self.assertEqual(lot.names(), ["a", "b"])

    def test_bad_patches(self):
        for thing in JUNK + ["c", A, Patch("b", []), Lot([A]), [C], (C,), {}, []]:
            self.assertEqual(caught(BadPatches, Lot, [A, B, thing, 3]).index, 2)
        for thing in (None, True, 0, "", "a", {}, {"a": A}, A, Lot([A])):
            self.assertEqual(caught(BadPatches, Lot, thing).index, 0)
        lacking = Patch("e", [], [(("z", 0), A0)])
        self.assertEqual(caught(BadPatches, Lot, [lacking, lacking]).index, 1)

    def test_lacks(self):
        cases = [
            ([B, C], "b", A0),
            ([C], "c", A0),
            ([A, D], "d", ("c", A0)),
            ([A, Patch("c", [], burials=[A1]), D], "d", ("c", A0)),
            ([Patch("a", ["x"]), B], "b", A1),
            ([Patch("m", ["x"], [(("z", 1), ("z", 0)), (("k", 3), ("m", 0))])], "m", ("k", 3)),
            ([Patch("m", ["x"], [(("m", 0), ("z", 1)), (A0, A1)]), A], "m", ("z", 1)),
            ([Patch("m", [], [(A0, ("q", 0))], [("b", 0)], [("c", A0)]), A], "m", ("q", 0)),
            ([Patch("m", [], [], [A1, ("q", 4), ("q", 3)], [("c", A0)]), A], "m", ("q", 3)),
            ([Patch("m", [], [], [A1], [("d", A0), ("c", A1)]), A, C], "m", ("c", A1)),
            ([A, Patch("b", [], [], [], [("z", ("q", 0))]), Patch("z", [], [], [("q", 0)])], "z", ("q", 0)),
        ]
        for patches, name, thing in cases:
            for told in permutations(patches):
                why = caught(Lacks, Lot, list(told))
                self.assertTrue(exact([why.name, why.thing], [name, thing]))

    def test_lacks_comes_ahead_of_round(self):
        x = Patch("x", ["q"], [(("x", 0), ("y", 0))])
        y = Patch("y", ["q"], [(("x", 0), ("y", 0))])
        self.assertTrue(exact(caught(Round, Lot, [y, x]).names, ["x", "y"]))
        self.assertEqual(caught(Lacks, Lot, [y, x, C]).name, "c")

    def test_round_is_the_first_by_the_order_of_choices(self):
        def needing(name, *others):
            return Patch(name, ["q"], [((name, 0), (other, 0)) for other in others])

        cases = [
            ([needing("a", "b"), needing("b", "c"), needing("c", "a")], ["a", "b", "c"]),
            ([needing("a", "c"), needing("b", "a"), needing("c", "b")], ["a", "c", "b"]),
            ([needing("a", "b"), needing("b", "c"), needing("c", "a", "d"), needing("d", "c")], ["c", "d"]),
            ([needing("a", "b"), needing("b", "c", "d"), needing("c", "a"), needing("d", "a")], ["a", "b", "c"]),
            ([needing("a", "c", "d"), needing("c", "a"), needing("d", "a", "b"), needing("b", "d")], ["a", "c"]),
            ([needing("e", "f"), needing("f", "e", "a"), needing("a")], ["e", "f"]),
        ]
        for patches, names in cases:
            for told in permutations(patches):
                self.assertTrue(exact(caught(Round, Lot, told).names, names))

    def test_round_by_definition(self):
        for rng in seeds(200):
            names = "abcdef"[:rng.randint(2, 5)]
            share = rng.choice([0.2, 0.35, 0.5])
            needs = {name: [other for other in names if other != name and rng.random() < share] for name in names}
            patches = [Patch(name, ["q"], [((name, 0), (other, 0)) for other in needs[name]]) for name in names]
            first = None
            for count in range(2, len(names) + 1):
                for told in permutations(names, count):
                    if first is None and all(told[(at + 1) % count] in needs[told[at]] for at in range(count)):
                        first = list(told)
            if first is None:
                self.assertEqual(len(Lot(patches)), len(names))
            else:
                self.assertEqual(caught(Round, Lot, patches).names, first)


class Pages(unittest.TestCase):
    def test_the_example_of_31(self):
        self.assertEqual(text_of(page_of(Lot([A, B, C, D]))), ["x", "m", "y"])
        self.assertEqual(text_of(page_of(Lot([C, B, A]))), ["m", "y"])
        self.assertEqual(page_of(lot=Lot([A, B, C])),
                         Page({A0: "x", A1: "y", B0: "m"}, [(A0, A1), (A0, B0), (B0, A1)], [A0]))

    def test_a_line_is_dead_if_one_burial_is_not_undone(self):
        e = Patch("e", [], burials=[A0])
        f = Patch("f", [], backs=[("e", A0)])
        g = Patch("g", [], backs=[("c", A0), ("e", A0)])
        for patches, dead in (([A], []), ([A, C], [A0]), ([A, C, e], [A0]), ([A, C, e, D], [A0]),
                              ([A, C, e, f], [A0]), ([A, C, e, D, f], []), ([A, C, e, g], []), ([A, C, e, g, D], [])):
            self.assertEqual(page_of(Lot(patches)).dead(), dead)

    def test_burials_at(self):
        e = Patch("e", [], burials=[A0, A1])
        f = Patch("f", [], backs=[("e", A0), ("c", A0)])
        lot = Lot([f, e, D, C, B, A])
        self.assertTrue(exact(burials_at(lot, A0), {"c": ["d", "f"], "e": ["f"]}))
        self.assertTrue(exact(burials_at(line=["a", 1], lot=lot), {"e": []}))
        self.assertTrue(exact(burials_at(lot, B0), {}))
        burials_at(lot, A0)["c"].clear()
        self.assertEqual(burials_at(lot, A0)["c"], ["d", "f"])
        for thing in JUNK + [[], "", 0, "a.0", ("a", 2), ("d", 0), ("a", False), A]:
            self.assertIs(caught(NoLine, burials_at, lot, thing).line, thing)

    def test_by_definition_in_whatever_order(self):
        for rng in seeds(150):
            patches = random_patches(rng, rng.randint(0, 6))
            page = page_of(Lot(patches))
            lines = {line: words for patch in patches for line, words in zip(patch.own_lines(), patch.texts())}
            dead = []
            for line in lines:
                told = {patch.called(): sorted(other.called() for other in patches
                                               if (patch.called(), line) in other.backs())
                        for patch in sorted(patches, key=Patch.called) if line in patch.burials()}
                self.assertTrue(exact(burials_at(Lot(patches), line), told))
                if not all(told.values()):
                    dead.append(line)
            self.assertEqual(page, Page(lines, [order for patch in patches for order in patch.orders()], dead))
            rng.shuffle(patches)
            self.assertEqual(page_of(Lot(patches)), page)


class Together(unittest.TestCase):
    def test_both_ways(self):
        self.assertEqual(Lot([A, B]) | Lot([A, C]), Lot([A, B, C]))
        self.assertEqual(Lot([A, B]) & Lot([A, C]), Lot([A]))
        self.assertEqual(Lot([A]) & Lot([]), Lot([]))
        self.assertEqual(Lot([]) | Lot([A]), Lot([A]))
        self.assertTrue(exact((Lot([A, C]) | Lot([A, B])).names(), ["a", "b", "c"]))

    def test_parted(self):
        one = Lot([A, B, C, D])
        other = Lot([A, Patch("d", []), Patch("c", [], burials=[A1]), Patch("e", [])])
        for left, right in ((one, other), (other, one)):
            self.assertEqual(caught(Parted, lambda: left | right).name, "c")
            self.assertEqual(caught(Parted, lambda: left & right).name, "c")
        self.assertIs(one.is_part(other), False)

    def test_is_part(self):
        whole = Lot([A, B, C, D])
        for part, told in ((Lot([]), True), (Lot([A, C]), True), (whole, True), (Lot([A, Patch("e", [])]), False),
                           (Lot([A, Patch("b", [])]), False)):
            self.assertIs(part.is_part(whole), told)
            self.assertIs(part.is_part(other=whole), told)
        self.assertIs(whole.is_part(Lot([A])), False)

    def test_by_definition(self):
        for rng in seeds(100):
            lot = random_lot(rng)
            parts = [part for part in map(list, product(*[[None, lot.patch_of(name)] for name in lot.names()]))
                     if closed([patch for patch in part if patch is not None])]
            for _ in range(8):
                one, other = [[patch for patch in rng.choice(parts) if patch is not None] for _ in "ab"]
                names = {patch.called() for patch in one}, {patch.called() for patch in other}
                self.assertEqual((Lot(one) | Lot(other)).names(), sorted(names[0] | names[1]))
                self.assertEqual((Lot(one) & Lot(other)).names(), sorted(names[0] & names[1]))
                self.assertIs(Lot(one).is_part(Lot(other)), names[0] <= names[1])
                self.assertIs(Lot(one).is_part(lot), True)


def closed(patches):
    names = {patch.called() for patch in patches}
    return all(set(patch.needs()) <= names for patch in patches)


if __name__ == "__main__":
    unittest.main()
