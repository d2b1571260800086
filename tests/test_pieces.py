"""Points 90 to 92: items, partings, what holds items together, patches in pieces."""

import unittest
from itertools import permutations

from patchlots.errors import BadCalls, NoItem, NoPatch
from patchlots.lots import Lot, page_of
from patchlots.pages import Page
from patchlots.patches import Patch
from patchlots.pieces import held_by, in_pieces, is_held, is_parting, items_of, pieces_of
from tests.helping import A, B, C, D, JUNK, as_lists, as_tuples, caught, exact, random_lot, random_patches, seeds

A0, A1, B0 = ("a", 0), ("a", 1), ("b", 0)
MANY = Patch("p", ["", "x", "y", "z"], [(("p", 0), ("p", 1)), (("p", 2), A0), (A0, A1), (("p", 1), ("p", 0)), (A1, ("p", 1))],
             [B0, A0], [("q", ("a", 1)), ("b", ("a", 1))])
EMPTY = Patch("p", [])


def random_patch(rng):
    """A patch that tells lines of its own and of others."""
    own = [("p", number) for number in range(rng.randint(0, 4))]
    lines = own + [A0, A1]
    pairs = rng.sample(list(permutations(lines, 2)), min(rng.randint(0, 3), len(own) + 2))
    return Patch("p", [""] * len(own), pairs, [A0, B0][:rng.choice([0, 1, 2])], [("q", A1)][:rng.choice([0, 1])])


def slow_bound(patch):
    """All pairs of an order and an own line that it tells."""
    return [(item, ("says", line[1])) for item in items_of(patch) if item[0] == "order"
            for line in item[1:] if line[0] == patch.called()]


def slow_is_parting(patch, lists):
    items = [item for some in lists for item in some]
    if sorted(items, key=str) != sorted(items_of(patch), key=str) or [] in lists:
        return False
    return all(any(one in some and other in some for some in lists) for one, other in slow_bound(patch))


def all_lists(items):
    """All ways to put items into lists."""
    if not items:
        return [[]]
    found = []
    for lists in all_lists(items[:-1]):
        found.append(lists + [[items[-1]]])
        found += [[some + [items[-1]] if some is here else some for some in lists] for here in lists]
    return found


class Items(unittest.TestCase):
    def test_items_of(self):
        wanted = [("says", 0), ("says", 1), ("says", 2), ("says", 3), ("order", A0, A1), ("order", A1, ("p", 1)),
                  ("order", ("p", 0), ("p", 1)), ("order", ("p", 1), ("p", 0)), ("order", ("p", 2), A0),
                  ("bury", A0), ("bury", B0), ("back", "b", A1), ("back", "q", A1)]
        self.assertTrue(exact(items_of(patch=MANY), wanted))
        self.assertTrue(exact(items_of(EMPTY), []))
        self.assertEqual(items_of(D), [("back", "c", A0)])
        items_of(MANY).clear()
        self.assertEqual(len(items_of(MANY)), 13)


class Partings(unittest.TestCase):
    def test_pieces_of(self):
        wanted = [[("says", 0), ("says", 1), ("order", A1, ("p", 1)), ("order", ("p", 0), ("p", 1)), ("order", ("p", 1), ("p", 0))],
                  [("says", 2), ("order", ("p", 2), A0)], [("says", 3)], [("order", A0, A1)], [("bury", A0)], [("bury", B0)],
                  [("back", "b", A1)], [("back", "q", A1)]]
        self.assertTrue(exact(pieces_of(patch=MANY), wanted))
        self.assertTrue(exact(pieces_of(EMPTY), []))
        pieces_of(MANY)[0].clear()
        self.assertEqual(pieces_of(MANY), wanted)

    def test_a_patch_with_nothing_of_its_own(self):
        patch = Patch("p", [], [(A0, A1), (A1, A0)], [B0], [("c", A0)])
        self.assertEqual(pieces_of(patch), [[item] for item in items_of(patch)])
        self.assertIs(is_parting(patch, [items_of(patch)]), True)
        self.assertIs(is_parting(EMPTY, []), True)
        self.assertIs(is_parting(EMPTY, [[]]), False)

    def test_by_definition_and_it_holds(self):
        met = 0
        for rng in seeds(130):
            patch = random_patch(rng)
            items = items_of(patch)
            if len(items) > 7:
                continue
            pieces = pieces_of(patch)
            partings = [lists for lists in all_lists(items) if slow_is_parting(patch, lists)]
            most = max(len(lists) for lists in partings)
            self.assertEqual([len(lists) for lists in partings].count(most), 1)
            self.assertTrue(exact(pieces, [lists for lists in partings if len(lists) == most][0]))
            for lists in partings:
                for some in lists:
                    for piece in pieces:
                        self.assertIn(len(set(piece) & set(some)), (0, len(piece)))
            for lists in rng.sample(all_lists(items), min(40, len(all_lists(items)))) + [pieces, [items] if items else []]:
                turned = [rng.sample(some, len(some)) for some in rng.sample(lists, len(lists))]
                right = slow_is_parting(patch, lists)
                self.assertIs(is_parting(patch, turned), right)
                self.assertIs(is_parting(thing=as_lists(turned), patch=patch), right)
                self.assertIs(is_parting(patch, as_tuples(turned)), right)
            met += len(pieces) < len(items) - 1
        self.assertGreater(met, 20)

    def test_an_item_twice_and_another_not_at_all(self):
        patch = Patch("p", [], [], [A0, B0])
        self.assertIs(is_parting(patch, [[("bury", A0)], [("bury", A0)]]), False)
        self.assertIs(is_parting(patch, [[("bury", A0), ("bury", A0)]]), False)
        self.assertIs(is_parting(patch, [[("bury", B0)], [("bury", A0)]]), True)

    def test_any_objects(self):
        patch = Patch("p", ["x"], [(A0, ("p", 0))], [B0], [("c", A0)])
        one, two, three = [("says", 0), ("order", A0, ("p", 0))], [("bury", B0)], [("back", "c", A0)]
        self.assertIs(is_parting(patch, [one, two, three]), True)
        self.assertIs(is_parting(patch, (one + two + three,)), True)
        for item in JUNK + [3, "", (), "says", ("says",), ("says", 1), ("says", False), ("says", "0"), ("Says", 0), ("says", 0, 0), ("bury", A0),
                            ("bury", "b0"), ("bury", ("b", False)), ("back", "c", B0), ("back", "d", A0), ("back", A0, "c"), ("back", ["c"], A0),
                            ("order", ("p", 0), A0), ("order", A0), ("order", A0, ("p", 0), 1), (("says",), 0),
                            ("Order", A0, ("p", 0)), ("buried", B0), ("backs", "c", A0), ("order", A0, None), ("order", A0, "c"), ("order", 3, A0),
                            ("back", "c", None), ("back", "c", "a"), ("back", None, A0), ("bury", None), ("bury", 3), ("bury", "b"), (None, 0), ([], A0), (patch, 0)]:
            for things in ([one, two, three + [item]], [one, two, three, [item]], [[item], two, three], item):
                self.assertIs(is_parting(patch, things), False)
            self.assertIs(is_parting(Patch("p", ["x"]), [[item]]), False)
        for things in ([one, two], [one, two, three, []], [one, two, three, two], [one, two, three + two], [one[:1], one[1:], two, three],
                       [one, two, 3], [one, two, "ab"], one, {0: one}, [one, two, {0: three[0]}]):
            self.assertIs(is_parting(patch, things), False)


def slow_distance(patch, one, other):
    """The number of items of the shortest list that holds two items, None if there is none."""
    bound = slow_bound(patch)
    level, many = {one}, 1
    seen = set()
    while level - seen:
        if other in level:
            return many
        seen |= level
        level = {b for a, b in bound if a in level} | {a for a, b in bound if b in level}
        many += 1
    return None


class Held(unittest.TestCase):
    def test_plain(self):
        path = [("says", 0), ("order", ("p", 0), ("p", 1)), ("says", 1), ("order", A1, ("p", 1))]
        self.assertIn(held_by(MANY, path[0], path[3]), (path, [path[0], ("order", ("p", 1), ("p", 0)), *path[2:]]))
        for item in items_of(MANY):
            self.assertTrue(exact(held_by(one=as_lists(item), patch=MANY, other=item), [item]))
            self.assertIs(is_held(MANY, item, item, [as_lists(item)]), True)
            self.assertIs(is_held(MANY, item, item, [item, item]), False)
        self.assertIsNone(held_by(MANY, ("bury", A0), ("says", 2)))
        self.assertIsNone(held_by(MANY, ("order", A0, A1), ("order", ("p", 2), A0)))

    def test_items_several_times(self):
        line, order, second = ("says", 0), ("order", ("p", 0), ("p", 1)), ("says", 1)
        for row in ([line, order, line], [line, order, second, order, line], [line, order, line, order, line]):
            self.assertIs(is_held(MANY, line, line, row), True)
            self.assertIs(is_held(thing=tuple(row), other=line, one=line, patch=MANY), True)
        self.assertIs(is_held(MANY, line, second, [line, order, second, order, second]), True)
        self.assertIs(is_held(MANY, order, order, [order, second, order]), True)
        self.assertIs(is_held(MANY, line, second, [line, second]), False)
        self.assertIs(is_held(MANY, line, second, [line, ("order", A1, ("p", 1)), second]), False)
        self.assertIs(is_held(MANY, line, second, [second, order, line]), False)
        self.assertIs(is_held(MANY, line, second, [line, order]), False)
        self.assertIs(is_held(MANY, line, second, []), False)

    def test_no_item(self):
        for thing in JUNK + [3, "", (), ("says", 4), ("says", -1), ("says", True), ("bury", A1), ("order", A1, A0), ("back", "b", A0), ("says",),
                             ("Order", A0, A1), ("buried", A0), ("backs", "b", A1), ("say", 0), (("order",), A0, A1)]:
            for call in (held_by, lambda patch, one, other: is_held(patch, one, other, None)):
                self.assertIs(caught(NoItem, call, MANY, thing, None).thing, thing)
                self.assertIs(caught(NoItem, call, MANY, ("says", 0), thing).thing, thing)

    def test_any_objects(self):
        for thing in JUNK + [3, "", [None], [("says", 0), None], ["says", 0], [("says", 0), ("says", True)], {0: ("says", 0)}, [[("says", 0)]]]:
            self.assertIs(is_held(MANY, ("says", 0), ("says", 0), thing), False)
            self.assertIs(is_held(MANY, ("says", 0), ("says", 0), [("says", 0), thing, ("says", 0)]), False)
        order, second = ("order", ("p", 0), ("p", 1)), ("says", 1)
        self.assertIs(is_held(MANY, ("says", 0), second, [order, second]), False)
        self.assertIs(is_held(MANY, second, ("says", 0), [second, order]), False)

    def test_by_definition_and_it_holds(self):
        met = {}
        for rng in seeds(120):
            patch = random_patch(rng)
            items = items_of(patch)
            for one in items:
                for other in items:
                    row = held_by(patch, one, other)
                    self.assertEqual(None if row is None else len(row), slow_distance(patch, one, other))
                    parted = any(one in some and other not in some for some in pieces_of(patch))
                    self.assertEqual(row is None, parted)
                    self.assertEqual(row, held_by(patch, as_lists(one), as_lists(other)))
                    if row is not None:
                        self.assertIs(is_held(patch, one, other, as_lists(row)), True)
                        met[len(row)] = met.get(len(row), 0) + 1
            bound = slow_bound(patch)
            for _ in range(10):
                if bound:
                    row = [rng.choice(rng.choice(bound))]
                    while rng.random() < 0.7:
                        row.append(rng.choice([b for a, b in bound if a == row[-1]] + [a for a, b in bound if b == row[-1]]))
                    self.assertIs(is_held(patch, row[0], row[-1], row), True)
                    row[rng.randrange(len(row))] = rng.choice(items)
                    wanted = all((a, b) in bound or (b, a) in bound for a, b in zip(row, row[1:]))
                    self.assertIs(is_held(patch, row[0], row[-1], row), wanted)
        self.assertGreater(min(met[many] for many in (1, 2, 3, 4)), 5)


def called_otherwise(page, lines):
    """The page with lines called as a dict tells."""
    told = {line: lines.get(line, line) for line in page.lines()}
    return Page({told[line]: words for line, words in page.lines().items()},
                [(told[one], told[other]) for one, other in page.orders()], [told[line] for line in page.dead()])


class InPieces(unittest.TestCase):
    def test_plain(self):
        made = in_pieces(Lot([A, B, C, D]), "a", ["a"])
        self.assertEqual(made, Lot([A, B, C, D]))
        lines = Patch("a", ["x", "y"])
        bury = Patch("c", ["n"], [], [A0, A1])
        undo = Patch("d", [], [], [("c", 0)], [("c", A1)])
        lot = Lot([lines, bury, undo])
        made = in_pieces(called=("r", "q", "c"), lot=lot, name="c")
        self.assertEqual(made, Lot([lines, Patch("r", ["n"]), Patch("q", [], [], [A0]), Patch("c", [], [], [A1]),
                                    Patch("d", [], [], [("r", 0)], [("c", A1)])]))
        made = in_pieces(lot, "a", ["z", "k"])
        self.assertEqual(made, Lot([Patch("z", ["x"]), Patch("k", ["y"]), Patch("c", ["n"], [], [("z", 0), ("k", 0)]),
                                    Patch("d", [], [], [("c", 0)], [("c", ("k", 0))])]))
        self.assertEqual(in_pieces(Lot([EMPTY]), "p", []), Lot([]))
        self.assertEqual(lot, Lot([lines, bury, undo]))

    def test_lines_are_numbered_anew(self):
        patch = Patch("p", list("uvwxyz"), [(("p", 5), ("p", 1)), (("p", 0), ("p", 4)), (("p", 2), ("p", 4))])
        user = Patch("s", [], [(("p", 3), ("p", 5))], [("p", 4)])
        made = in_pieces(Lot([patch, user]), "p", ["k", "a", "p"])
        self.assertEqual(made, Lot([
            Patch("k", list("uwy"), [(("k", 0), ("k", 2)), (("k", 1), ("k", 2))]), Patch("a", list("vz"), [(("a", 1), ("a", 0))]),
            Patch("p", ["x"]), Patch("s", [], [(("p", 0), ("a", 1))], [("k", 2)])]))

    def test_errors(self):
        lot = Lot([A, B, Patch("c", ["n"], [], [A0, A1])])
        for thing in JUNK + [3, "", "d", ["a"]]:
            self.assertIs(caught(NoPatch, in_pieces, lot, thing, None).name, thing)
        for thing in (None, True, 3, "", "xyz", {}, {"x": 1}, lot):
            self.assertEqual(caught(BadCalls, in_pieces, lot, "c", thing).index, 0)
        for thing in JUNK + [3, "", "x", "c", "a", "b", ["q"]]:
            self.assertEqual(caught(BadCalls, in_pieces, lot, "c", ["c", "x", thing]).index, 2)
        for names in ([], ["x"], ["x", "c"], ["x", "y", "z", "w"], ["x", "y", "z", "u", "v"]):
            self.assertEqual(caught(BadCalls, in_pieces, lot, "c", names).index, len(names))
        self.assertEqual(caught(BadCalls, in_pieces, lot, "c", ["x", "x"]).index, 1)
        self.assertEqual(caught(BadCalls, in_pieces, lot, "c", ["x", "y", "z", "w", "w"]).index, 4)
        self.assertEqual(caught(BadCalls, in_pieces, Lot([EMPTY]), "p", ["x"]).index, 1)

    def test_the_same_page(self):
        many = 0
        for rng in seeds(150):
            lot = random_lot(rng) if rng.random() < 0.5 else Lot(random_patches(rng, 7))
            for name in lot.names():
                patch = lot.patch_of(name)
                pieces = pieces_of(patch)
                called = rng.sample([name] + [f"p{number}" for number in range(20)], len(pieces))
                made = in_pieces(lot, name, called)
                self.assertEqual(made.names(), sorted([other for other in lot.names() if other != name] + called))
                lines = {}
                for word, piece in zip(called, pieces):
                    for place, item in enumerate([item for item in piece if item[0] == "says"]):
                        lines[(name, item[1])] = (word, place)
                    # Each piece is made of its own list, and they need none of one another.
                    self.assertEqual(len(items_of(made.patch_of(word))), len(piece))
                    self.assertEqual(set(made.patch_of(word).needs()) & set(called), set())
                self.assertEqual(page_of(made), called_otherwise(page_of(lot), lines))
                many += len(pieces) > 1
        self.assertGreater(many, 100)


if __name__ == "__main__":
    unittest.main()
