"""Point 93: patches of a lot put together, and what keeps them from being one."""

import unittest

from patchlots.errors import Amid, BadCalled, BadNames, Inward, Twice
from patchlots.histories import histories
from patchlots.joined import between_chain, joined_lot
from patchlots.lots import Lot, page_of
from patchlots.patches import Patch
from tests.helping import A, B, C, D, JUNK, caught, exact, random_lot, random_short_lot, seeds
from tests.test_pieces import called_otherwise

A0, A1, B0 = ("a", 0), ("a", 1), ("b", 0)
LOT = Lot([A, B, C, D])


def slow_chains(lot, names):
    """All lists of three or more names, the ends among names alone, each needing the next."""
    rows = [[name] for name in names]
    found = []
    for row in rows:
        for need in lot.patch_of(row[-1]).needs():
            if need not in names:
                rows.append(row + [need])
            elif len(row) > 1:
                found.append(row + [need])
    return found


def side_by_side(history, names):
    places = sorted(history.index(name) for name in names)
    return places[-1] - places[0] == len(names) - 1


def slow_errors(lot, names):
    """What keeps them from being one, in its order: Inward, Twice, the chain; None for each that does not."""
    patches = [lot.patch_of(name) for name in sorted(names)]
    put = {line for patch in patches for line in patch.own_lines()}
    buried = [(patch.called(), line) for patch in patches for line in patch.burials()]
    inward = [patch.called() for patch in patches if set(patch.burials()) & put or set(patch.backs()) & set(buried)]
    lines = sorted(line for _, line in buried)
    twice = [line for line in lines if lines.count(line) > 1]
    chains = sorted(slow_chains(lot, names), key=lambda row: (len(row), row))
    return [(told[0] if told else None) for told in (inward, twice, chains)]


class Joined(unittest.TestCase):
    def test_plain(self):
        made = joined_lot(LOT, ["b", "a"], "k")
        k = Patch("k", ["x", "y", "m"], [(("k", 0), ("k", 1)), (("k", 0), ("k", 2)), (("k", 2), ("k", 1))])
        self.assertEqual(made, Lot([k, Patch("c", [], burials=[("k", 0)]), Patch("d", [], backs=[("c", ("k", 0))])]))
        made = joined_lot(called="c", names=("b", "c"), lot=LOT)
        c = Patch("c", ["m"], [(A0, ("c", 0)), (("c", 0), A1)], [A0])
        self.assertEqual(made, Lot([A, c, D]))
        made = joined_lot(LOT, ["b", "c"], "a1")
        self.assertEqual(made.patch_of("d"), Patch("d", [], backs=[("a1", A0)]))

    def test_backs_told_once(self):
        more = Patch("e", [], backs=[("c", A0)])
        made = joined_lot(Lot([A, C, D, more]), ["d", "e"], "d")
        self.assertEqual(made, Lot([A, C, D]))

    def test_bad_names(self):
        for call in (lambda lot, names: joined_lot(lot, names, None), between_chain):
            for thing in (None, True, 3, "", "ab", {}, {"a": 1, "b": 2}, LOT):
                self.assertEqual(caught(BadNames, call, LOT, thing).index, 0)
            self.assertEqual(caught(BadNames, call, LOT, []).index, 0)
            self.assertEqual(caught(BadNames, call, LOT, ()).index, 0)
            for name in "abcd":
                self.assertEqual(caught(BadNames, call, LOT, [name]).index, 1)
            for thing in JUNK + [3, "", "e", ["c"], "a", "b"]:
                self.assertEqual(caught(BadNames, call, LOT, ["a", "b", thing, None]).index, 2)
            self.assertEqual(caught(BadNames, call, LOT, ["e"]).index, 0)

    def test_inward(self):
        self.assertEqual(caught(Inward, joined_lot, LOT, ["c", "a"], None).name, "c")
        self.assertEqual(caught(Inward, joined_lot, LOT, ["d", "c", "a"], None).name, "c")
        self.assertEqual(caught(Inward, joined_lot, LOT, ["d", "c"], None).name, "d")

    def test_twice(self):
        lot = Lot([Patch("a", ["x", "y"]), Patch("b", [], burials=[A1, A0]), Patch("c", [], burials=[A0, A1]), Patch("d", [], burials=[A0])])
        self.assertEqual(caught(Twice, joined_lot, lot, ["c", "b"], None).line, A0)
        self.assertEqual(caught(Twice, joined_lot, lot, ["d", "b"], None).line, A0)
        lot = Lot([Patch("a", ["x", "y"]), Patch("b", ["z"], burials=[A1]), Patch("c", [], burials=[("b", 0)]), Patch("d", [], burials=[A1])])
        self.assertEqual(caught(Inward, joined_lot, lot, ["b", "c", "d"], None).name, "c")
        self.assertEqual(caught(Twice, joined_lot, lot, ["b", "d"], None).line, A1)

    def test_amid(self):
        # Lines between those that are put together.
        lot = Lot([Patch("a", ["x"]), Patch("b", ["y"], [(A0, B0)]), Patch("c", ["z"], [(B0, ("c", 0))]), Patch("b1", [], [(A0, B0)]),
                   Patch("d", [], [(("c", 0), A0)])])
        self.assertTrue(exact(caught(Amid, joined_lot, lot, ["a", "c"], None).names, ["c", "b", "a"]))
        self.assertTrue(exact(between_chain(lot, ["a", "c"]), ["c", "b", "a"]))
        self.assertTrue(exact(between_chain(names=("d", "b"), lot=lot), ["d", "c", "b"]))
        self.assertIsNone(between_chain(lot, ["a", "b", "c"]))
        self.assertIsNone(between_chain(lot, ["b1", "d"]))
        self.assertEqual(between_chain(lot, ["d", "a"]), ["d", "c", "b", "a"])

    def test_bad_called(self):
        for thing in JUNK + [3, "", "c", "d", ["k"]]:
            self.assertIs(caught(BadCalled, joined_lot, LOT, ["a", "b"], thing).thing, thing)
        for called in ("a", "b"):
            self.assertIn(called, joined_lot(LOT, ["a", "b"], called))

    def test_by_definition_and_it_holds(self):
        met = {}
        for rng in seeds(500):
            lot = random_lot(rng) if rng.random() < 0.5 else random_short_lot(rng, 5, 2, 0.3, 0.4)
            if len(lot) < 2:
                continue
            names = rng.sample(lot.names(), rng.randint(2, min(3, len(lot))))
            inward, twice, chain = slow_errors(lot, names)
            self.assertTrue(exact(between_chain(lot, names), chain))
            self.assertEqual(chain is None, any(side_by_side(history, names) for history in histories(lot)))
            if inward is not None:
                self.assertEqual(caught(Inward, joined_lot, lot, names, None).name, inward)
            elif twice is not None:
                self.assertEqual(caught(Twice, joined_lot, lot, names, None).line, twice)
            elif chain is not None:
                self.assertEqual(caught(Amid, joined_lot, lot, names, None).names, chain)
            else:
                called = rng.choice(names + ["joined"])
                made = joined_lot(lot, names, called)
                self.assertEqual(made.names(), sorted(set(lot.names()) - set(names) | {called}))
                own = [line for name in sorted(names) for line in lot.patch_of(name).own_lines()]
                lines = {line: (called, place) for place, line in enumerate(own)}
                self.assertEqual(page_of(made), called_otherwise(page_of(lot), lines))
                backs = {back for name in names for back in lot.patch_of(name).backs()}
                self.assertEqual(made.patch_of(called).backs(), sorted(backs))
            kind = "inward" if inward else "twice" if twice else "amid" if chain else None
            met[kind] = met.get(kind, 0) + 1
        self.assertGreater(min(met[kind] for kind in ("inward", "twice", "amid", None)), 4)


if __name__ == "__main__":
    unittest.main()
