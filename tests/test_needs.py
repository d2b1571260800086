"""Points 23 (sent_to) to 26: what is sent, with and without, chains, rounds."""

import unittest
from itertools import combinations, permutations

from patchlots.errors import BadNames, NoPatch, Parted
from patchlots.lots import Lot
from patchlots.needs import (
    greatest_without, is_needs_chain, least_with, longest_needs, needs_chain, rounds_of, sent_to,
)
from patchlots.patches import Patch
from tests.helping import JUNK, A, B, C, D, as_tuples, caught, exact, random_lot, seeds

A0 = ("a", 0)
LOT = Lot([A, B, C, D])


def needing(name, *others):
    """A patch that needs just these."""
    return Patch(name, ["q"], [((name, 0), (other, 0)) for other in others])


def slow_parts(lot):
    """The sets of the names of all parts."""
    found = []
    for count in range(len(lot) + 1):
        for names in combinations(lot.names(), count):
            if all(set(lot.patch_of(name).needs()) <= set(names) for name in names):
                found.append(set(names))
    return found


class Sent(unittest.TestCase):
    def test_sent(self):
        self.assertTrue(exact(sent_to(Lot([]), LOT), ["a", "b", "c", "d"]))
        self.assertTrue(exact(sent_to(Lot([A, B]), LOT), ["c", "d"]))
        self.assertEqual(sent_to(other=Lot([A]), one=LOT), [])
        self.assertEqual(sent_to(Lot([]), Lot([])), [])
        lot = Lot([needing("a", "c"), needing("b"), needing("c", "d"), needing("d"), needing("e", "b")])
        self.assertEqual(sent_to(Lot([]), lot), ["b", "d", "c", "a", "e"])
        self.assertEqual(sent_to(Lot([needing("d"), needing("x")]), lot), ["b", "c", "a", "e"])

    def test_parted(self):
        other = Lot([Patch("d", []), Patch("c", []), A])
        self.assertEqual(caught(Parted, sent_to, LOT, other).name, "c")
        self.assertEqual(caught(Parted, sent_to, other, LOT).name, "c")

    def test_by_definition(self):
        for rng in seeds(100):
            lot = random_lot(rng)
            part = Lot([lot.patch_of(name) for name in rng.choice(slow_parts(lot))])
            there, wanted = set(part.names()), []
            while len(there) < len(lot):
                wanted.append(min(name for name in lot.names() if name not in there
                                  and set(lot.patch_of(name).needs()) <= there))
                there.add(wanted[-1])
            self.assertEqual(sent_to(part, lot), wanted)


class WithAndWithout(unittest.TestCase):
    def test_with_and_without(self):
        self.assertEqual(least_with(LOT, ["d"]), Lot([A, C, D]))
        self.assertEqual(least_with(names=("b", "c", "b"), lot=LOT), Lot([A, B, C]))
        self.assertEqual(greatest_without(LOT, ["c"]), Lot([A, B]))
        self.assertEqual(greatest_without(names=("a",), lot=LOT), Lot([]))
        self.assertEqual(least_with(LOT, []), Lot([]))
        self.assertEqual(greatest_without(LOT, ()), LOT)
        self.assertEqual(greatest_without(LOT, ["d", "b", "d"]), Lot([A, C]))

    def test_bad_names(self):
        for call in (least_with, greatest_without):
            for thing in JUNK + ["e", "", ["a"], 0, A, LOT]:
                self.assertEqual(caught(BadNames, call, LOT, ["a", "a", "d", thing, 3]).index, 3)
            for thing in (None, True, 0, "", "a", "abcd", {}, {"a": 1}, A, LOT):
                self.assertEqual(caught(BadNames, call, LOT, thing).index, 0)

    def test_by_definition_and_it_holds(self):
        for rng in seeds(100):
            lot = random_lot(rng)
            parts = slow_parts(lot)
            names = [name for name in lot.names() if rng.random() < 0.4]
            rng.shuffle(names)
            holding = [part for part in parts if set(names) <= part]
            self.assertEqual(least_with(lot, names).names(), sorted(set.intersection(*holding)))
            lacking = [part for part in parts if not set(names) & part]
            self.assertEqual(greatest_without(lot, names).names(), sorted(set.union(*lacking)))
            self.assertIs(least_with(lot, names).is_part(lot), True)
            self.assertIs(greatest_without(lot, names).is_part(lot), True)
            for one in lot.names():
                for other in lot.names():
                    self.assertEqual(one in least_with(lot, [other]), other not in greatest_without(lot, [one]))


class Chains(unittest.TestCase):
    def test_chains(self):
        self.assertTrue(exact(needs_chain(LOT, "d", "a"), ["d", "a"]))
        self.assertTrue(exact(needs_chain(other="b", one="b", lot=LOT), ["b"]))
        self.assertIsNone(needs_chain(LOT, "a", "d"))
        self.assertIsNone(needs_chain(LOT, "d", "b"))
        for thing in (["d", "a"], ("d", "a"), ["d", "c", "a"]):
            self.assertIs(is_needs_chain(LOT, "d", "a", thing), True)
        self.assertIs(is_needs_chain(thing=("b",), other="b", one="b", lot=LOT), True)

    def test_is_needs_chain_of_any_object(self):
        for thing in JUNK + [[], (), "", "da", ["d"], ["a"], ["a", "d"], ["d", "c"], ["c", "a"], ["d", "b", "a"],
                             ["d", "d", "a"], ["d", "a", "a"], ["d", "e", "a"], ["d", None, "a"], ["d", ["c"], "a"],
                             {"d": 1, "a": 1}, [["d", "a"]], ["D", "a"], [A0, "a"]]:
            self.assertIs(is_needs_chain(LOT, "d", "a", thing), False)
        self.assertIs(is_needs_chain(LOT, "d", "d", []), False)
        self.assertIs(is_needs_chain(LOT, "d", "d", ["a"]), False)

    def test_no_patch(self):
        for thing in JUNK + ["e", "", ["a"], 0, A, LOT, {}, []]:
            self.assertIs(caught(NoPatch, needs_chain, LOT, thing, 3).name, thing)
            self.assertIs(caught(NoPatch, needs_chain, LOT, "a", thing).name, thing)
            self.assertIs(caught(NoPatch, is_needs_chain, LOT, thing, 3, ["a"]).name, thing)
            self.assertIs(caught(NoPatch, is_needs_chain, LOT, "a", thing, ["a"]).name, thing)

    def test_by_definition_and_it_holds(self):
        for rng in seeds(100):
            lot = random_lot(rng, 5)
            parts = slow_parts(lot)
            for one in lot.names():
                for other in lot.names():
                    chains = [list(told) for count in range(1, len(lot) + 1)
                              for told in permutations(lot.names(), count)
                              if told[0] == one and told[-1] == other
                              and all(b in lot.patch_of(a).needs() for a, b in zip(told, told[1:]))]
                    found = needs_chain(lot, one, other)
                    self.assertEqual(found is None, chains == [])
                    if found is not None:
                        self.assertIn(found, chains)
                        self.assertEqual(len(found), len(chains[0]))
                        patches = [lot.patch_of(name) for name in lot.names()[::-1]]
                        self.assertTrue(exact(needs_chain(other=other, lot=Lot(tuple(patches)), one=one), found))
                    for told in permutations(lot.names(), 2):
                        self.assertIs(is_needs_chain(lot, one, other, told), list(told) in chains)
                    for told in chains:
                        self.assertIs(is_needs_chain(lot, one, other, as_tuples(told)), True)
                    apart = any(one in part and other not in part for part in parts)
                    self.assertEqual(found is None, apart)


class Rounds(unittest.TestCase):
    def test_rounds(self):
        self.assertTrue(exact(rounds_of(LOT), [["a"], ["b", "c"], ["d"]]))
        self.assertTrue(exact(longest_needs(LOT), ["a", "c", "d"]))
        self.assertEqual(rounds_of(lot=Lot([])), [])
        self.assertEqual(longest_needs(lot=Lot([])), [])
        lot = Lot([needing("b"), needing("a"), needing("c", "a", "b"), needing("d", "b"), needing("e", "d", "c", "a")])
        self.assertEqual(rounds_of(lot), [["a", "b"], ["c", "d"], ["e"]])
        self.assertEqual(longest_needs(lot), ["a", "c", "e"])
        rounds_of(lot)[0].clear()
        self.assertEqual(rounds_of(lot)[0], ["a", "b"])
        lot = Lot([needing("z"), needing("a", "z"), needing("m"), needing("b", "m"), needing("c", "b")])
        self.assertEqual(longest_needs(lot), ["m", "b", "c"])

    def test_by_definition_and_it_holds(self):
        for rng in seeds(100):
            lot = random_lot(rng)
            left, wanted = lot.names(), []
            while left:
                there = {name for told in wanted for name in told}
                wanted.append([name for name in left if set(lot.patch_of(name).needs()) <= there])
                left = [name for name in left if name not in wanted[-1]]
            self.assertEqual(rounds_of(lot), wanted)
            chains = [[]]
            longest = []
            while chains:
                longest = min(chains)
                chains = [told + [name] for told in chains for name in lot.names()
                          if not told or told[-1] in lot.patch_of(name).needs()]
            self.assertEqual(longest_needs(lot), longest)
            self.assertEqual(len(longest), len(wanted))


if __name__ == "__main__":
    unittest.main()
