"""Point 85: the fewest moves by which a tree reads, and claims."""

import unittest
from itertools import chain, combinations, permutations

from patchlots.moves import are_claims, claims, fewest_moves
from patchlots.treedeeds import deed_done
from patchlots.trees import FileTree, paths_of, troubles
from tests.helping import JUNK, as_lists, as_tuples, exact, random_tree, seeds
from tests.test_trees import slow_places

A0, B0, C0, D0 = ("a", 0), ("b", 0), ("c", 0), ("d", 0)
EMPTY = FileTree({}, {}, [])


def tree_of(places, dead=(), files=()):
    """The tree of entries with such places, told by directories or pairs."""
    kinds = {entry: "file" if entry in files else "directory" for entry in places}
    placings = {}
    for entry, told in places.items():
        for place in told:
            pair = place if isinstance(place, tuple) and isinstance(place[1], str) else (place, f"w{entry[0]}")
            placings[("m", len(placings))] = (entry, pair, [])
    return FileTree(kinds, placings, dead)


def reads_behind(tree, moved):
    """Whether the tree reads behind moves to the root by names that nobody has."""
    steps = [("move", entry, (None, f"nobody{number}")) for number, entry in enumerate(moved)]
    return paths_of(deed_done(tree, "mover", steps)) is not None


def slow_moves(tree):
    live = tree.alive()
    for count in range(len(live) + 1):
        for moved in combinations(live, count):
            if reads_behind(tree, moved):
                return list(moved)
    raise AssertionError("no moves")


def slow_claims(tree):
    """All pairs that may stand among claims."""
    live = tree.alive()
    places = {entry: slow_places(tree, entry) for entry in live}
    lost = [entry for entry in live if any(above in tree.dead() for above, _ in places[entry])]
    found = [([entry], 1) for entry in live if len(places[entry]) > 1 or entry in lost]
    plain = [entry for entry in live if len(places[entry]) == 1 and entry not in lost]
    for count in range(1, len(plain) + 1):
        for some in combinations(plain, count):
            if count > 1 and all(places[entry] == places[some[0]] for entry in some):
                found.append((list(some), count - 1))
            if any(all(places[row[at]][0][0] == row[at - 1] for at in range(count)) for row in permutations(some)):
                if (list(some), 1) not in found:
                    found.append((list(some), 1))
    return found


def greatest_sum(told):
    """The greatest sum of numbers of claims that have no entry in common."""
    if not told:
        return 0
    entries, many = told[0]
    apart = [claim for claim in told[1:] if not set(claim[0]) & set(entries)]
    return max(greatest_sum(told[1:]), many + greatest_sum(apart))


class Moves(unittest.TestCase):
    def test_plain(self):
        for tree, moved, told in (
                (EMPTY, [], []), (tree_of({A0: [None], B0: [A0]}), [], []),
                (tree_of({A0: [None], B0: [A0, None]}), [B0], [([B0], 1)]),
                (tree_of({A0: [None], B0: [A0]}, [A0]), [B0], [([B0], 1)]),
                (tree_of({A0: [(None, "x")], B0: [(None, "x")], C0: [(None, "x")]}), [A0, B0], [([A0, B0, C0], 2)]),
                (tree_of({A0: [A0]}), [A0], [([A0], 1)]),
                (tree_of({A0: [B0], B0: [C0], C0: [A0]}), [A0], [([A0, B0, C0], 1)]),
                # One of the crowd stands on a round: it is the one that moves.
                (tree_of({A0: [(B0, "x")], B0: [A0], C0: [(B0, "x")]}), [A0], [([A0, C0], 1)]),
                (tree_of({C0: [(B0, "x")], B0: [C0], A0: [(B0, "x")]}), [C0], [([A0, C0], 1)])):
            self.assertTrue(exact(fewest_moves(tree), moved))
            self.assertTrue(exact(claims(tree), told))

    def test_by_definition_and_it_holds(self):
        met = {}
        for rng in seeds(300):
            tree = random_tree(rng, 6)
            moved = fewest_moves(tree=tree)
            self.assertTrue(exact(moved, slow_moves(tree)))
            told = claims(tree=tree)
            self.assertEqual(sum(many for _, many in told), len(moved))
            self.assertEqual(greatest_sum(slow_claims(tree)), len(moved))
            self.assertTrue(exact(told, claims(tree)))
            self.assertIs(are_claims(tree, told), True)
            for claim in told:
                self.assertTrue(exact(claim, (list(claim[0]), claim[1])))
                self.assertIn(claim, slow_claims(tree))
            self.assertEqual(len(set(chain(*[entries for entries, _ in told]))), sum(len(entries) for entries, _ in told))
            self.assertEqual(moved == [], troubles(tree) == [])
            met[len(moved)] = met.get(len(moved), 0) + 1
        self.assertGreater(min(met[count] for count in range(4)), 10)

    def test_each_claim_wants_so_many_moves(self):
        for rng in seeds(60):
            tree = random_tree(rng, 5)
            live = tree.alive()
            ways = [moved for count in range(len(live) + 1) for moved in combinations(live, count)
                    if reads_behind(tree, moved)]
            for entries, many in slow_claims(tree):
                self.assertTrue(all(len(set(entries) & set(moved)) >= many for moved in ways))

    def test_are_claims_by_definition(self):
        right = 0
        for rng in seeds(150):
            tree = random_tree(rng, 5)
            good = slow_claims(tree)
            entries = list(tree.entries())
            numbers = [0, 1, 1, 2, True, -1]
            wild = [(rng.sample(entries, min(len(entries), rng.randint(0, 3))), rng.choice(numbers)) for _ in range(3)]
            wild += [(told[::-1], many) for told, many in good] + [(told, many + 1) for told, many in good]
            for claim in wild + good:
                self.assertIs(are_claims(tree, [claim]), any(exact(claim, other) for other in good))
                right += claim in good
            for _ in range(10):
                some = rng.sample(good, min(len(good), rng.randint(0, 3)))
                apart = all(not set(one[0]) & set(other[0]) for one, other in combinations(some, 2))
                self.assertIs(are_claims(thing=as_lists(some), tree=tree), apart)
                self.assertIs(are_claims(tree, as_tuples(some)), apart)
        self.assertGreater(right, 200)

    def test_any_objects(self):
        tree = tree_of({A0: [A0], B0: [(None, "x"), (None, "y")], C0: [(None, "z")], D0: [(None, "z")]}, [])
        for thing in ([], (), [([A0], 1)], [([C0, D0], 1)], [((B0,), 1), [[["a", 0]], 1], (([("d", 0)][:0] + [C0, D0]), 1)]):
            self.assertIs(are_claims(tree, thing), True)
        for thing in JUNK + [3, "a", {}, [3], [()], [[]], [([], 0)], [([], 1)], [([], -1)], [([A0], True)], [([A0], 0)], [([A0], 2)], [([A0],)],
                             [([A0], 1, 1)], [(A0, 1)], [([A0, A0], 1)], [([A0], 1), ([A0], 1)], [([C0], 1)], [([C0], 0)],
                             [([D0, C0], 1)], [([C0, D0], 2)], [([C0, D0, D0], 2)], [([A0, B0], 1)], [([A0, B0], 2)],
                             [(["a"], 1)], [([("a", False)], 1)], [([("e", 0)], 1)], [({A0: 1}, 1)], [("a0", 1)], [([A0], "1")],
                             [([A0], None)], [([None], 1)], [([[A0]], 1)], {"a": 1}, tree, [tree], [(tree, 1)], [([tree], 1)]]:
            self.assertIs(are_claims(tree, thing), thing == [], thing)
        self.assertIs(are_claims(EMPTY, []), True)
        dead = tree_of({A0: [A0], B0: [A0]}, [A0])
        self.assertEqual([are_claims(dead, [([A0], 1)]), are_claims(dead, [([B0], 1)])], [False, True])

    def test_new_each_time(self):
        tree = tree_of({A0: [A0]})
        claims(tree)[0][0].clear()
        claims(tree).clear()
        fewest_moves(tree).clear()
        self.assertEqual([claims(tree), fewest_moves(tree)], [[([A0], 1)], [A0]])


if __name__ == "__main__":
    unittest.main()
