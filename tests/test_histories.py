"""Points 27 and 28: histories, parts, the least part with the same page."""

import unittest
from itertools import combinations, permutations
from math import comb, factorial

from patchlots.histories import (
    histories, how_many_histories, how_many_parts, is_history, least_alike, parts_of,
)
from patchlots.lots import Lot, page_of
from patchlots.patches import Patch
from tests.helping import JUNK, A, B, C, D, as_tuples, exact, random_lot, seeds

LOT = Lot([A, B, C, D])


class Histories(unittest.TestCase):
    def test_the_example_of_31(self):
        self.assertTrue(exact(histories(LOT), [list("abcd"), list("acbd"), list("acdb")]))
        self.assertTrue(exact(how_many_histories(lot=LOT), 3))
        self.assertTrue(exact(how_many_parts(lot=LOT), 7))
        self.assertTrue(exact(parts_of(lot=LOT), [[], ["a"], ["a", "b"], ["a", "c"], ["a", "b", "c"],
                                                  ["a", "c", "d"], ["a", "b", "c", "d"]]))

    def test_empty_lot(self):
        lot = Lot([])
        self.assertTrue(exact([histories(lot), how_many_histories(lot), parts_of(lot), how_many_parts(lot),
                               least_alike(lot)], [[[]], 1, [[]], 1, []]))
        self.assertIs(is_history(lot, []), True)
        self.assertIs(is_history(lot, ()), True)
        self.assertIs(is_history(lot, ["a"]), False)

    def test_is_history_of_any_object(self):
        for thing in (list("acdb"), tuple("abcd")):
            self.assertIs(is_history(LOT, thing), True)
            self.assertIs(is_history(thing=thing, lot=LOT), True)
        for thing in JUNK + ["abcd", [], list("abc"), list("abdc"), list("bacd"), list("abcdd"), list("abcde"),
                             list("abca"), ["a", "b", "c", None], ["a", "b", "c", ["d"]], {"a": 1}, ["a", "b", "c", D],
                             dict.fromkeys("abcd")]:
            self.assertIs(is_history(LOT, thing), False)

    def test_by_definition_and_facts(self):
        for rng in seeds(120):
            lot = random_lot(rng, 5)
            needs = {name: lot.patch_of(name).needs() for name in lot.names()}
            wanted = [list(told) for told in permutations(lot.names())
                      if all(told.index(need) < told.index(name) for name in told for need in needs[name])]
            self.assertTrue(exact(histories(lot), wanted))
            self.assertTrue(exact(how_many_histories(lot), len(wanted)))
            for told in permutations(lot.names()):
                self.assertIs(is_history(lot, as_tuples(told)), list(told) in wanted)
            parts = [list(told) for count in range(len(lot) + 1) for told in combinations(lot.names(), count)
                     if all(need in told for name in told for need in needs[name])]
            self.assertTrue(exact(parts_of(lot), parts))
            self.assertTrue(exact(how_many_parts(lot), len(parts)))
            beginnings = {tuple(sorted(told[:count])) for told in wanted for count in range(len(lot) + 1)}
            self.assertEqual(beginnings, {tuple(told) for told in parts})
            for one in parts:
                for other in parts:
                    self.assertIn(sorted(set(one) | set(other)), parts)
                    self.assertIn(sorted(set(one) & set(other)), parts)

    def test_new_each_time(self):
        for call in (histories, parts_of):
            call(LOT)[0].append("z")
            call(LOT).clear()
        self.assertEqual([len(histories(LOT)), len(parts_of(LOT)), parts_of(LOT)[0]], [3, 7, []])

    def test_many(self):
        lot = Lot([Patch(name, []) for name in "abcdefghij"])
        self.assertEqual(how_many_histories(lot), factorial(10))
        self.assertEqual(how_many_parts(lot), 2 ** 10)
        self.assertEqual([len(part) for part in parts_of(lot)].count(5), comb(10, 5))


class LeastAlike(unittest.TestCase):
    def test_least_alike(self):
        self.assertTrue(exact(least_alike(LOT), ["a", "b"]))
        self.assertEqual(least_alike(lot=Lot([A, B, C])), ["a", "b", "c"])
        e = Patch("e", [], burials=[("a", 0)])
        self.assertEqual(least_alike(Lot([A, C, e])), ["a", "c"])
        self.assertEqual(least_alike(Lot([A, C, D, e])), ["a", "c"])
        self.assertEqual(least_alike(Lot([Patch("p", []), Patch("q", [])])), [])
        self.assertEqual(least_alike(Lot([A, Patch("p", [], [(("a", 0), ("a", 1))])])), ["a"])

    def test_by_definition_and_fact(self):
        for rng in seeds(120):
            lot = random_lot(rng)
            alike = [names for names in parts_of(lot)
                     if page_of(Lot([lot.patch_of(name) for name in names])) == page_of(lot)]
            self.assertEqual(least_alike(lot), alike[0])
            putting = {name for name in lot.names() if lot.patch_of(name).own_lines()}
            self.assertTrue(all(putting <= set(names) for names in alike))


if __name__ == "__main__":
    unittest.main()
