"""Points 80 to 82, and | of point 83: trees of files, places, what reads, troubles."""

import unittest
from itertools import combinations, permutations

from patchlots.bares import Bare
from patchlots.errors import (
    BadDead, BadEntries, BadPlacings, NoEntry, OldRing, UnlikeEntry, UnlikeMark, Unplaced,
)
from patchlots.pages import Page
from patchlots.trees import FileTree, paths_of, troubles
from tests.helping import JUNK, A, as_lists, as_tuples, caught, exact, random_tree, seeds

A0, A1, B0, C0 = ("a", 0), ("a", 1), ("b", 0), ("c", 0)
M0, M1, M2, M3 = ("m", 0), ("m", 1), ("m", 2), ("m", 3)
KINDS = {A0: "directory", B0: "directory", C0: "file"}
PLACINGS = {M0: (A0, (None, "top"), []), M1: (B0, (A0, "sub"), []), M2: (C0, (B0, "leaf"), [])}
TREE = FileTree(KINDS, PLACINGS, [])
EMPTY = FileTree({}, {}, [])


def told(tree):
    return [tree.entries(), tree.placings(), tree.dead(), tree.alive()]


def slow_places(tree, entry):
    placings = tree.placings()
    olds = {old for _, _, told_olds in placings.values() for old in told_olds}
    found = {place for mark, (other, place, _) in placings.items() if other == entry and mark not in olds}
    return sorted(found, key=lambda place: (place[0] is not None, place[0] or (), place[1]))


def slow_troubles(tree):
    live = tree.alive()
    places = {entry: slow_places(tree, entry) for entry in tree.entries()}
    inside = {entry: [above for above, _ in places[entry]] for entry in live}
    found = [("places", entry) for entry in live if len(places[entry]) > 1]
    found += [("lost", entry) for entry in live if set(inside[entry]) & set(tree.dead())]
    found += [("same", one, other) for one, other in combinations(live, 2) if set(places[one]) & set(places[other])]
    rounds = [row for count in range(1, len(live) + 1) for row in permutations(live, count)
              if row[0] == min(row) and all(row[(at + 1) % count] in inside[row[at]] for at in range(count))]
    return found + [("round", *row) for row in sorted(rounds)]


def slow_paths(tree):
    live = tree.alive()
    places = {entry: slow_places(tree, entry) for entry in live}
    if any(len(found) != 1 for found in places.values()):
        return None
    paths = {}
    for entry in live:
        if sum(places[entry] == places[other] for other in live) > 1:
            return None
        path, above = [], entry
        while above is not None:
            if above not in live or len(path) > len(live):
                return None
            above, word = places[above][0]
            path.insert(0, word)
        paths[entry] = tuple(path)
    return paths


class Trees(unittest.TestCase):
    def test_told(self):
        wanted = [{A0: "directory", B0: "directory", C0: "file"},
                  {M0: (A0, (None, "top"), []), M1: (B0, (A0, "sub"), []), M2: (C0, (B0, "leaf"), [])}, [], [A0, B0, C0]]
        self.assertTrue(exact(told(TREE), wanted))
        turned = FileTree(dead=(), placings={mark: as_lists(PLACINGS[mark]) for mark in (M2, M0, M1)},
                          entries=dict(reversed(KINDS.items())))
        self.assertTrue(exact(told(turned), wanted))
        self.assertEqual(turned, TREE)
        self.assertTrue(exact(told(EMPTY), [{}, {}, [], []]))
        more = FileTree(KINDS, {**PLACINGS, M3: (C0, (None, "x"), [["m", 2]]), ("k", 5): (C0, (A0, "y"), (M3, M2))},
                        [["c", 0], C0, A0])
        self.assertTrue(exact(more.placings()[("k", 5)], (C0, (A0, "y"), [M2, M3])))
        self.assertTrue(exact(list(more.placings()), [("k", 5), M0, M1, M2, M3]))
        self.assertTrue(exact([more.dead(), more.alive()], [[A0, C0], [B0]]))

    def test_bad_entries(self):
        for key in ("a", 0, None, ("a",), ("A", 0), ("a", -1), ("a", True), ("a", 0, 0), (0, "a"), True, ((), 0)):
            self.assertIs(caught(BadEntries, FileTree, {A0: "file", key: "file", B0: 3}, None, None).thing, key)
        for kind in JUNK + ["", "dir", "File", "files", 0, ["file"], ("directory",)]:
            self.assertEqual(caught(BadEntries, FileTree, {A0: "file", B0: kind, "a": 3}, None, None).thing, B0)
        for thing in (None, True, 3, "", [], (), [(A0, "file")], [A0], TREE, Page({}, [], [])):
            self.assertIs(caught(BadEntries, FileTree, thing, None, None).thing, thing)

    def test_bad_placings(self):
        right = (A0, (None, "top"), [])
        for key in ("m", 0, None, ("m",), ("M", 0), ("m", -1), ("n", True), ("m", 0, 0), True):
            self.assertIs(caught(BadPlacings, FileTree, KINDS, {M1: right, key: right, M0: 3}, None).thing, key)
        for triple in JUNK + ["", (), (A0,), (A0, (None, "x")), (A0, (None, "x"), [], []), (A1, (None, "x"), []), (A0, None, []),
                              ("a", (None, "x"), []), (A0, (None,), []), (A0, (None, "x", 1), []), (A0, (None, ""), []),
                              (A0, (None, "X"), []), (A0, (None, 1), []), (A0, (C0, "x"), []), (A0, (A1, "x"), []),
                              (A0, (0, "x"), []), (A0, (False, "x"), []), (A0, ("", "x"), []), (A0, "ax", []), (A0, [None, None], []),
                              (A0, (None, "x"), None), (A0, (None, "x"), "m"), (A0, (None, "x"), [M3]), (A0, (None, "x"), [M0]),
                              (A0, (None, "x"), [M1, M1]), (A0, (None, "x"), [M2]), (A0, (None, "x"), [None]),
                              (A0, (None, "x"), [("m", True)]), (A0, (None, "x"), {}), (A0, (None, "x"), [[M1]]),
                              {0: A0, 1: (None, "x"), 2: []}, (None, (None, "x"), []), (("a", False), (None, "x"), [])]:
            placings = {M1: right, M2: (B0, (None, "b"), []), M0: triple, "m": 3}
            self.assertEqual(caught(BadPlacings, FileTree, KINDS, placings, None).thing, M0)
        for thing in (None, True, 3, "", [], (), [(M0, right)], TREE):
            self.assertIs(caught(BadPlacings, FileTree, KINDS, thing, None).thing, thing)
        # What is replaced has to be a triple of the same entry.
        for other in (None, (B0, (None, "x"), []), (), (A0,), "abc", ("a", 0, 0)):
            placings = {M0: (A0, (None, "x"), [M1]), M1: other}
            self.assertEqual(caught(BadPlacings, FileTree, KINDS, placings, None).thing, M0)

    def test_old_ring(self):
        def ring(*marks):
            return {mark: (A0, (None, "x"), [marks[index - 1]]) for index, mark in enumerate(marks)}

        kinds = {A0: "file", B0: "file"}
        self.assertEqual(caught(OldRing, FileTree, kinds, ring(M1, M0), [None]).mark, M0)
        self.assertEqual(caught(OldRing, FileTree, kinds, ring(M3, M1, M2), None).mark, M1)
        more = {**ring(M3, M2), M0: (A0, (None, "x"), [M3]), M1: (A0, (None, "y"), [])}
        self.assertEqual(caught(OldRing, FileTree, kinds, more, None).mark, M2)

    def test_unplaced(self):
        kinds = {C0: "file", B0: "file", A0: "directory"}
        self.assertEqual(caught(Unplaced, FileTree, kinds, {}, None).entry, C0)
        self.assertEqual(caught(Unplaced, FileTree, kinds, {M0: (C0, (None, "x"), [])}, [None]).entry, B0)
        self.assertEqual(caught(Unplaced, FileTree, kinds, {M0: (C0, (None, "x"), []), M1: (B0, (A0, "x"), [])}, 3).entry, A0)

    def test_bad_dead(self):
        for thing in JUNK + [A1, M0, "a0", 3, ("a", False), ["a", 1], ("a",)]:
            self.assertEqual(caught(BadDead, FileTree, KINDS, PLACINGS, [A0, ["b", 0], A0, thing, None]).index, 3)
        for thing in (None, True, 3, "", {}, {A0: 1}, TREE):
            self.assertEqual(caught(BadDead, FileTree, KINDS, PLACINGS, thing).index, 0)

    def test_equal_and_nothing_else(self):
        two = {**PLACINGS, M3: (A0, (None, "x"), [M0, ("n", 0)]), ("n", 0): (A0, (None, "y"), [])}
        turned = {**two, M3: (A0, (None, "x"), [("n", 0), M0])}
        self.assertEqual(FileTree(KINDS, two, []), FileTree(KINDS, turned, ()))
        for other in (FileTree({**KINDS, C0: "directory"}, PLACINGS, []), FileTree(KINDS, PLACINGS, [C0]), EMPTY,
                      FileTree(KINDS, {**PLACINGS, M2: (C0, (A0, "leaf"), [])}, []),
                      FileTree(KINDS, {**PLACINGS, M3: (C0, (B0, "leaf"), [])}, []),
                      FileTree(KINDS, {**PLACINGS, M2: (C0, (B0, "leaves"), [])}, [])):
            self.assertIs(TREE == other, False)
            self.assertIs(TREE != other, True)
        for other in JUNK + [told(TREE), KINDS, None]:
            self.assertIs(TREE == other, False)
        for other in (Page({}, [], []), Bare([], [], []), A, {}):
            self.assertIs(EMPTY == other, False)

    def test_later_changes_have_no_effect(self):
        kinds, placings, dead = dict(KINDS), {mark: as_lists(triple) for mark, triple in PLACINGS.items()}, [["c", 0]]
        placings[M3] = [["c", 0], [None, "x"], [["m", 2]]]
        tree = FileTree(kinds, placings, dead)
        wanted = told(tree)
        kinds.clear()
        placings[M3][2][0][1] = 0
        placings[M3][1][1] = "q"
        placings.clear()
        dead[0][0] = "b"
        tree.entries().clear()
        tree.placings()[M3][2].clear()
        tree.dead().clear()
        tree.alive().clear()
        tree.places_of(C0).clear()
        self.assertTrue(exact(told(tree), wanted))
        self.assertEqual(tree.placings()[M3], (C0, (None, "x"), [M2]))


class Places(unittest.TestCase):
    def test_places_of(self):
        self.assertTrue(exact(TREE.places_of(C0), [(B0, "leaf")]))
        placings = {**PLACINGS, M3: (C0, (B0, "z"), []), ("n", 1): (C0, (None, "z"), []), ("n", 2): (C0, (None, "b"), []),
                    ("n", 3): (C0, (A0, "z"), []), ("n", 4): (C0, (A0, "b"), []), ("n", 5): (C0, (None, "b"), [])}
        tree = FileTree(KINDS, placings, [])
        wanted = [(None, "b"), (None, "z"), (A0, "b"), (A0, "z"), (B0, "leaf"), (B0, "z")]
        self.assertTrue(exact(tree.places_of(entry=["c", 0]), wanted))
        tree = FileTree(KINDS, {**placings, ("o", 0): (C0, (None, "q"), [M2, M3, ("n", 1), ("n", 2), ("n", 3), ("n", 4), ("n", 5)])}, [])
        self.assertEqual(tree.places_of(C0), [(None, "q")])

    def test_what_is_replaced_replaces_still(self):
        placings = {**PLACINGS, M3: (C0, (None, "x"), [M2]), ("n", 0): (C0, (None, "y"), [M3])}
        self.assertEqual(FileTree(KINDS, placings, []).places_of(C0), [(None, "y")])

    def test_no_entry(self):
        for thing in JUNK + [A1, M0, "a0", "a", 3, ("a", False), ("a", 0, 0), TREE]:
            self.assertIs(caught(NoEntry, TREE.places_of, thing).entry, thing)
        self.assertEqual(caught(NoEntry, EMPTY.places_of, A0).entry, A0)

    def test_by_definition_and_fact(self):
        several = 0
        for rng in seeds(200):
            tree = random_tree(rng)
            for entry in tree.entries():
                places = tree.places_of(as_lists(entry))
                self.assertTrue(exact(places, slow_places(tree, entry)))
                self.assertGreaterEqual(len(places), 1)
                several += len(places) > 1
        self.assertGreater(several, 30)


class Reading(unittest.TestCase):
    def test_paths(self):
        self.assertTrue(exact(paths_of(TREE), {A0: ("top",), B0: ("top", "sub"), C0: ("top", "sub", "leaf")}))
        self.assertTrue(exact(paths_of(tree=EMPTY), {}))
        self.assertTrue(exact(troubles(tree=EMPTY), []))
        self.assertTrue(exact(troubles(TREE), []))
        self.assertTrue(exact(paths_of(FileTree(KINDS, PLACINGS, [B0, C0])), {A0: ("top",)}))
        self.assertTrue(exact(paths_of(FileTree(KINDS, PLACINGS, [A0, B0, C0])), {}))

    def test_several_places_and_lost(self):
        tree = FileTree(KINDS, {**PLACINGS, M3: (C0, (None, "x"), [])}, [B0])
        self.assertIsNone(paths_of(tree))
        self.assertTrue(exact(troubles(tree), [("places", C0), ("lost", C0)]))
        tree = FileTree(KINDS, PLACINGS, [A0])
        self.assertIsNone(paths_of(tree))
        self.assertEqual(troubles(tree), [("lost", B0)])

    def test_the_same_place(self):
        tree = FileTree({**KINDS, A1: "file"}, {**PLACINGS, M3: (A1, (None, "top"), [])}, [])
        self.assertIsNone(paths_of(tree))
        self.assertTrue(exact(troubles(tree), [("same", A0, A1)]))
        self.assertEqual(troubles(FileTree(tree.entries(), tree.placings(), [A1])), [])
        two = FileTree(tree.entries(), {**tree.placings(), ("n", 0): (A1, (B0, "leaf"), [])}, [])
        self.assertEqual(troubles(two), [("places", A1), ("same", A0, A1), ("same", A1, C0)])

    def test_rounds(self):
        tree = FileTree({A0: "directory"}, {M0: (A0, (A0, "a"), [])}, [])
        self.assertIsNone(paths_of(tree))
        self.assertTrue(exact(troubles(tree), [("round", A0)]))
        kinds = {A0: "directory", B0: "directory", A1: "directory"}
        tree = FileTree(kinds, {M0: (B0, (A0, "b"), []), M1: (A0, (A1, "a"), []), M2: (A1, (B0, "c"), [])}, [])
        self.assertTrue(exact(troubles(tree), [("round", A0, A1, B0)]))
        self.assertIsNone(paths_of(tree))
        self.assertEqual(troubles(FileTree(kinds, tree.placings(), [A1])), [("lost", A0)])
        both = FileTree(kinds, {**tree.placings(), M3: (A0, (B0, "a"), []), ("n", 0): (A1, (A0, "c"), [])}, [])
        self.assertEqual(troubles(both), [("places", A0), ("places", A1), ("round", A0, A1), ("round", A0, A1, B0),
                                          ("round", A0, B0)])

    def test_by_definition_and_it_holds(self):
        met = {}
        for rng in seeds(500):
            tree = random_tree(rng)
            self.assertTrue(exact(troubles(tree), slow_troubles(tree)))
            self.assertTrue(exact(paths_of(tree), slow_paths(tree)))
            self.assertEqual(paths_of(tree) is None, troubles(tree) != [])
            for kind, *rest in troubles(tree):
                met[kind] = met.get(kind, 0) + 1
                met["long"] = max(met.get("long", 0), len(rest))
            met["reads"] = met.get("reads", 0) + (paths_of(tree) is not None and len(tree.alive()) > 1)
        self.assertGreater(min(met[kind] for kind in ("places", "lost", "same", "round", "reads")), 20)
        self.assertEqual(met["long"], 3)

    def test_new_each_time(self):
        paths_of(TREE).clear()
        self.assertEqual(len(paths_of(TREE)), 3)


class Together(unittest.TestCase):
    def test_together(self):
        one = FileTree({A0: "directory"}, {M0: (A0, (None, "top"), [])}, [])
        other = FileTree({C0: "file", A0: "directory"}, {M0: [["a", 0], [None, "top"], ()], M1: (C0, (A0, "x"), [])}, [C0])
        both = FileTree({A0: "directory", C0: "file"}, {M0: (A0, (None, "top"), []), M1: (C0, (A0, "x"), [])}, [C0])
        for made in (one | other, other | one):
            self.assertEqual(made, both)
            self.assertTrue(exact(told(made), told(both)))
        self.assertEqual(TREE | EMPTY, TREE)
        self.assertEqual(TREE | TREE, TREE)
        self.assertTrue(exact(told(one), [{A0: "directory"}, {M0: (A0, (None, "top"), [])}, [], [A0]]))

    def test_unlike(self):
        def tree(kinds, placings):
            return FileTree(kinds, placings, [])

        one = tree({B0: "file", A0: "file", C0: "file"}, {mark: (entry, (None, "x"), []) for mark, entry in
                                                          ((M0, A0), (M1, B0), (M2, C0))})
        other = tree({C0: "directory", B0: "directory"}, {M0: (B0, (None, "x"), []), M3: (C0, (None, "x"), [])})
        for first, second in ((one, other), (other, one)):
            self.assertEqual(caught(UnlikeEntry, lambda: first | second).entry, B0)
        third = tree({B0: "file", A0: "file"}, {M2: (B0, (None, "x"), []), M1: (A0, (None, "y"), []), M0: (A0, (None, "x"), [])})
        for first, second in ((one, third), (third, one)):
            self.assertEqual(caught(UnlikeMark, lambda: first | second).mark, M1)
        more = tree({A0: "file"}, {M0: (A0, (None, "x"), []), M3: (A0, (None, "y"), [M0])})
        less = tree({A0: "file"}, {M0: (A0, (None, "x"), []), M3: (A0, (None, "y"), [])})
        self.assertEqual(caught(UnlikeMark, lambda: more | less).mark, M3)

    def test_by_definition(self):
        unlike = 0
        for rng in seeds(200):
            whole = random_tree(rng)
            parts = []
            for _ in range(2):
                kept = [entry for entry in whole.entries() if rng.random() < 0.7]
                for entry in list(kept):
                    for other, (above, _), _ in whole.placings().values():
                        if other in kept and above is not None and above not in kept:
                            kept.append(above)
                while True:
                    more = [above for other, (above, _), _ in whole.placings().values()
                            if other in kept and above is not None and above not in kept]
                    if not more:
                        break
                    kept += more[:1]
                parts.append(FileTree({entry: whole.entries()[entry] for entry in kept},
                                      {mark: triple for mark, triple in whole.placings().items() if triple[0] in kept},
                                      [entry for entry in whole.dead() if entry in kept and rng.random() < 0.5]))
            one, other = parts
            made = one | other
            self.assertEqual(made, other | one)
            self.assertEqual(made.entries(), dict(sorted({**one.entries(), **other.entries()}.items())))
            self.assertEqual(made.placings(), dict(sorted({**one.placings(), **other.placings()}.items())))
            self.assertEqual(made.dead(), sorted({*one.dead(), *other.dead()}))
            strange = random_tree(rng)
            kinds = [entry for entry in whole.entries() if entry in strange.entries()
                     and strange.entries()[entry] != whole.entries()[entry]]
            marks = [mark for mark in whole.placings() if mark in strange.placings()
                     and as_tuples(strange.placings()[mark]) != as_tuples(whole.placings()[mark])]
            if kinds:
                self.assertEqual(caught(UnlikeEntry, lambda: whole | strange).entry, kinds[0])
            elif marks:
                self.assertEqual(caught(UnlikeMark, lambda: whole | strange).mark, marks[0])
            unlike += len(kinds) + len(marks) > 0
        self.assertGreater(unlike, 40)


if __name__ == "__main__":
    unittest.main()
