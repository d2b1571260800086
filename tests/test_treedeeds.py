"""Points 83 and 84: deeds on trees of files, and the least clashes of them."""

import unittest
from itertools import combinations, permutations

from patchlots.errors import BadDeedName, BadDeeds, BadStep, NotReading
from patchlots.pages import Page
from patchlots.treedeeds import deed_done, least_clashes
from patchlots.trees import FileTree, paths_of, troubles
from tests.helping import (
    JUNK, as_lists, called_by, caught, exact, random_reading_tree, random_steps, random_tree, seeds,
)
from tests.test_trees import A0, B0, C0, EMPTY, KINDS, M0, M1, M2, PLACINGS, TREE, told


def slow_done(tree, name, steps):
    """The tree behind steps that can all be done."""
    kinds, placings, dead = tree.entries(), tree.placings(), tree.dead()
    for number, step in enumerate(steps):
        if step[0] == "make":
            kinds[(name, number)] = step[1]
            placings[(name, number)] = ((name, number), step[2], [])
        elif step[0] == "move":
            mine = [mark for mark, (entry, _, _) in placings.items() if entry == step[1]]
            olds = {old for _, _, replaced in placings.values() for old in replaced}
            placings[(name, number)] = (step[1], step[2], [mark for mark in mine if mark not in olds])
        else:
            dead.append(step[1])
    return FileTree(kinds, placings, dead)


class Deeds(unittest.TestCase):
    def test_make_move_bury(self):
        done = deed_done(TREE, "x", [("make", "directory", (None, "new")), ("make", "file", (("x", 0), "f")),
                                     ("move", C0, (("x", 0), "g")), ("bury", B0), ("move", ("x", 1), (A0, "f"))])
        wanted = FileTree(
            {**KINDS, ("x", 0): "directory", ("x", 1): "file"},
            {**PLACINGS, ("x", 0): (("x", 0), (None, "new"), []), ("x", 1): (("x", 1), (("x", 0), "f"), []),
             ("x", 2): (C0, (("x", 0), "g"), [M2]), ("x", 4): (("x", 1), (A0, "f"), [("x", 1)])}, [B0])
        self.assertEqual(done, wanted)
        self.assertTrue(exact(told(done), told(wanted)))
        self.assertEqual(paths_of(done), {A0: ("top",), C0: ("new", "g"), ("x", 0): ("new",), ("x", 1): ("top", "f")})
        self.assertEqual(told(TREE), told(FileTree(KINDS, PLACINGS, [])))

    def test_without_steps(self):
        for steps in ([], ()):
            self.assertEqual(deed_done(tree=TREE, steps=steps, name="x"), TREE)
        self.assertEqual(deed_done(EMPTY, "x", []), EMPTY)

    def test_a_move_of_an_entry_with_several_places(self):
        tree = FileTree(KINDS, {**PLACINGS, ("n", 0): (C0, (None, "x"), []), ("n", 1): (C0, (A0, "y"), [M2]),
                                ("n", 2): (C0, (None, "x"), [])}, [])
        done = deed_done(tree, "x", [("move", C0, (B0, "leaf"))])
        self.assertEqual(done.placings()[("x", 0)], (C0, (B0, "leaf"), [("n", 0), ("n", 1), ("n", 2)]))
        self.assertEqual(done.places_of(C0), [(B0, "leaf")])
        twice = deed_done(tree, "x", [("move", C0, (B0, "p")), ("move", C0, (B0, "p"))])
        self.assertEqual(twice.placings()[("x", 1)], (C0, (B0, "p"), [("x", 0)]))

    def test_a_directory_into_itself(self):
        done = deed_done(TREE, "x", [("move", A0, (A0, "in"))])
        self.assertEqual(troubles(done), [("round", A0)])
        self.assertEqual(troubles(deed_done(TREE, "x", [("move", A0, (B0, "in"))])), [("round", A0, B0)])

    def test_bad_name(self):
        for thing in JUNK + [3, "", "a", "b", "c", "m", "x y", ["x"], ("x", 0), A0]:
            self.assertIs(caught(BadDeedName, deed_done, TREE, thing, None).thing, thing)
        done = deed_done(TREE, "x", [("bury", C0)])
        self.assertEqual(deed_done(done, "x", []), done)
        done = deed_done(TREE, "x", [("bury", C0), ("move", B0, (None, "b"))])
        self.assertEqual(caught(BadDeedName, deed_done, done, "x", []).thing, "x")

    def test_bad_step(self):
        for thing in (None, True, 3, "", "ab", {}, {0: ("bury", A0)}, TREE, Page({}, [], [])):
            self.assertEqual(caught(BadStep, deed_done, TREE, "x", thing).index, 0)
        place = (None, "w")
        bad = JUNK + [
            (), [[]], ("bury",), ("bury", A0, A0), ("bury", M0), ("bury", ("x", 9)), ("bury", "a"), ("bury", ("a", False)),
            ("make", "file"), ("make", "dir", place), ("make", None, place), ("make", ["file"], place), ("make", "file", None),
            ("make", "file", (None, "W")), ("make", "file", (C0, "w")), ("make", "file", (("x", 9), "w")),
            ("make", "file", (None,)), ("make", "file", (None, "w", 1)), ("make", "file", "w"), ("make", place, "file"),
            ("make", "file", place, []), ("move", A0), ("move", A0, place, []), ("move", place, A0), ("move", M0, place),
            ("move", A0, (C0, "w")), ("move", A0, (M0, "w")), ("move", None, place), ("Move", A0, place), ("bury ", A0),
            ("move", A0, (("a", False), "w")), (("move",), A0, place), ({}, A0), (TREE, A0, place), "bury", ("move", ("a", 0, 0), place),
            ("makes", "file", place), ("moves", A0, place), ("buries", A0), (None, "file", place),
        ]
        for thing in bad:
            steps = [("bury", C0), ["make", "directory", [None, "n"]], ("move", ["b", 0], (["x", 1], "w")), thing, None]
            self.assertEqual(caught(BadStep, deed_done, TREE, "x", steps).index, 3, thing)

    def test_what_is_dead_then(self):
        for thing in (("bury", B0), ("move", B0, (None, "w")), ("move", A0, (B0, "w")), ("make", "file", (B0, "w"))):
            for name in ("x", "y"):
                self.assertEqual(caught(BadStep, deed_done, TREE, name, [("bury", B0), thing]).index, 1)
            tree = FileTree(KINDS, PLACINGS, [B0])
            self.assertEqual(caught(BadStep, deed_done, tree, "x", [thing]).index, 0)
        self.assertEqual(caught(BadStep, deed_done, TREE, "x", [["bury", ["b", 0]], ["bury", ["b", 0]]]).index, 1)
        self.assertEqual(caught(BadStep, deed_done, TREE, "x", [("bury", ("x", 1)), ("make", "file", (None, "w"))]).index, 0)
        self.assertEqual(caught(BadStep, deed_done, TREE, "x", [("make", "file", (None, "w")), ("make", "file", (("x", 0), "w"))]).index, 1)

    def test_by_definition(self):
        for rng in seeds(200):
            tree = random_tree(rng)
            steps = called_by("x", random_steps(rng, tree))
            ahead = told(tree)
            wanted = slow_done(tree, "x", steps)
            self.assertTrue(exact(told(deed_done(tree, "x", steps)), told(wanted)))
            self.assertEqual(deed_done(tree, "x", as_lists(steps)), wanted)
            self.assertTrue(exact(told(tree), ahead))

    def test_one_tree_in_whatever_order(self):
        for rng in seeds(60):
            tree = random_tree(rng)
            done = [deed_done(tree, name, called_by(name, random_steps(rng, tree))) for name in "xyz"]
            made = [one | other | third for one, other, third in permutations(done)]
            made += [done[0] | (done[1] | done[2]), tree | done[2] | done[0] | done[1] | done[1]]
            for other in made:
                self.assertEqual(other, made[0])

    def test_later_changes_have_no_effect(self):
        steps = [["move", ["c", 0], [None, "w"]], ["make", "file", [["a", 0], "f"]]]
        done = deed_done(TREE, "x", steps)
        wanted = told(done)
        steps[0][1][1] = 7
        steps[1][2][0][0] = "b"
        steps.clear()
        done.placings()[("x", 0)][2].clear()
        self.assertTrue(exact(told(done), wanted))


def slow_least_clashes(tree, deeds):
    def reads(names):
        made = tree
        for name in names:
            made = made | deed_done(tree, name, deeds[name])
        return paths_of(made) is not None

    return [list(names) for count in range(len(deeds) + 1) for names in combinations(sorted(deeds), count)
            if not reads(names) and all(reads(less) for size in range(count) for less in combinations(names, size))]


class LeastClashes(unittest.TestCase):
    def test_plain(self):
        tree = FileTree({A0: "directory", C0: "file"}, {M0: (A0, (None, "a"), []), M1: (C0, (None, "c"), [])}, [])
        deeds = {"x": [("move", C0, (A0, "c"))], "w": [("move", C0, (None, "d"))], "v": [], "y": [("bury", A0)]}
        self.assertTrue(exact(least_clashes(tree, deeds), [["w", "x"], ["x", "y"]]))
        self.assertEqual(least_clashes(deeds=deeds, tree=tree), [["w", "x"], ["x", "y"]])
        deeds = {"x": [["make", "file", [None, "d"]]], "w": (("make", "directory", (None, "d")),)}
        self.assertEqual(least_clashes(tree, deeds), [["w", "x"]])

    def test_no_deeds(self):
        self.assertTrue(exact(least_clashes(TREE, {}), []))
        self.assertEqual(least_clashes(EMPTY, {}), [])
        self.assertEqual(least_clashes(TREE, {"x": [("bury", C0)]}), [])

    def test_not_reading(self):
        tree = deed_done(TREE, "x", [("move", A0, (A0, "in"))])
        for deeds in ({}, None, {"a": 3}):
            self.assertEqual(vars(caught(NotReading, least_clashes, tree, deeds)), {})

    def test_bad_deeds(self):
        for thing in (None, True, 3, "", [], [("x", [])], TREE):
            self.assertIs(caught(BadDeeds, least_clashes, TREE, thing).thing, thing)
        for key in ("A", "a", "m", 3, None, True, ("x", 0), "", ("x",)):
            deeds = {"z": [], key: [], "y": 3}
            self.assertIs(caught(BadDeeds, least_clashes, TREE, deeds).thing, key)
        for steps in JUNK + [3, "x", [("bury", M0)], [("bury", C0), ("bury", C0)], [("move", A0, (B0, "x"))], [("bury", A0)],
                             [("make", "file", (None, "top"))]]:
            if steps not in ([], ()):
                deeds = {"z": [("bury", C0)], "y": steps, "b": None, "A": 3}
                self.assertEqual(caught(BadDeeds, least_clashes, TREE, deeds).thing, "y")

    def drawn(self, rng, number):
        """A tree that reads, and deeds each of which makes one that reads by itself."""
        if number % 2 == 0:
            tree = random_reading_tree(rng)
        else:
            entries = [("d", number) for number in range(rng.randint(3, 5))]
            tree = FileTree(dict.fromkeys(entries, "directory"),
                            {entry: (entry, (None, f"w{entry[1]}"), []) for entry in entries}, [])
        deeds = {}
        for name in rng.sample(["x", "y", "z", "u", "v1"], rng.randint(2, 5)):
            steps = called_by(name, random_steps(rng, tree, 2, "mmmk"))
            if number % 2 == 1:
                one, other = rng.sample(list(tree.entries()), 2)
                steps = [("move", one, (other, name))]
            if paths_of(deed_done(tree, name, steps)) is not None:
                deeds[name] = steps
        return tree, deeds

    def test_by_definition_and_it_holds(self):
        sizes = {}
        for number, rng in enumerate(seeds(200)):
            tree, deeds = self.drawn(rng, number)
            found = least_clashes(tree, deeds)
            self.assertTrue(exact(found, slow_least_clashes(tree, deeds)))
            for names in found:
                sizes[len(names)] = sizes.get(len(names), 0) + 1
                made = tree
                for name in names:
                    made = made | deed_done(tree, name, deeds[name])
                if len(names) > 2:
                    for kind, *row in troubles(made):
                        self.assertEqual(kind, "round")
                        olds = {old for _, _, told_olds in made.placings().values() for old in told_olds}
                        hands = {mark[0] for mark, (entry, _, _) in made.placings().items() if entry in row and mark not in olds}
                        self.assertLessEqual(set(names), hands)
        self.assertGreater(sizes[2], 50)
        self.assertGreater(sizes[3], 10)

    def test_rounds_of_many(self):
        for many in range(2, 7):
            entries = [("d", number) for number in range(many)]
            tree = FileTree(dict.fromkeys(entries, "directory"),
                            {entry: (entry, (None, f"w{entry[1]}"), []) for entry in entries}, [])
            deeds = {f"h{number}": [("move", entry, (entries[number - 1], "in"))] for number, entry in enumerate(entries)}
            self.assertEqual(least_clashes(tree, deeds), [sorted(deeds)])

    def test_nothing_passed_is_changed(self):
        deeds = {"x": [["move", ["c", 0], [None, "w"]]]}
        least_clashes(TREE, deeds)
        self.assertTrue(exact(deeds, {"x": [["move", ["c", 0], [None, "w"]]]}))


if __name__ == "__main__":
    unittest.main()
