"""Points 72, 73 and 75: common rows, covers, what is in all of the longest and in some."""

import unittest
from itertools import combinations

from patchlots.commonrows import (
    common_row, is_common_row, is_cover, least_cover, many_common_rows, matches_in_all, matches_in_some,
    surely_kept, surely_taken,
)
from patchlots.errors import NoText
from patchlots.pages import Page
from tests.helping import JUNK, as_lists, as_tuples, caught, exact, random_text, seeds, slow_common_rows, slow_matches

ONE, OTHER = list("abcab"), list("cabc")
CALLS = [common_row, least_cover, many_common_rows, matches_in_all, matches_in_some, surely_kept, surely_taken,
         lambda one, other: is_common_row(one, other, None), lambda one, other: is_cover(one, other, None)]
BAD_TEXTS = [None, True, 3, "", "abc", {}, {"a": 1}, Page({}, [], [])]
BAD_WORDS = [None, True, 3, ["a"], ("a",), "a\nb", "w" * 201, {}, Page({}, [], [])]


class CommonRows(unittest.TestCase):
    def test_no_text(self):
        for call in CALLS:
            for thing in BAD_WORDS:
                self.assertEqual(caught(NoText, call, ["a", "", thing, 3], 3).index, 2)
                self.assertEqual(caught(NoText, call, ["a"], ("a", thing, 3)).index, 1)
            for thing in BAD_TEXTS:
                self.assertEqual(caught(NoText, call, thing, [3]).index, 0)
                self.assertEqual(caught(NoText, call, [], thing).index, 0)

    def test_common_row(self):
        self.assertIn(common_row(ONE, OTHER), [[(0, 1), (1, 2), (2, 3)], [(2, 0), (3, 1), (4, 2)]])
        self.assertTrue(exact(common_row(other=tuple(OTHER), one=tuple(ONE)), common_row(ONE, OTHER)))
        self.assertTrue(exact([common_row([], []), common_row([], OTHER), common_row(["x"], ["y"])], [[], [], []]))
        self.assertTrue(exact(common_row(ONE, ONE), [(place, place) for place in range(5)]))

    def test_is_common_row_of_any_object(self):
        for thing in ([], (), [(0, 1)], ((0, 1), [1, 2], (2, 3)), [[2, 0], [4, 2]]):
            self.assertIs(is_common_row(ONE, OTHER, thing), True)
            self.assertIs(is_common_row(thing=thing, other=OTHER, one=ONE), True)
        for thing in JUNK + [[(0, 0)], [(0, 1), (0, 1)], [(1, 2), (0, 1)], [(2, 0), (2, 3)], [(0, 1), (3, 1)], [(5, 1)], [(0, 4)],
                             [(-1, 2)], [(0, -3)], [(False, 1)], [(0, True)], [(0, 1, 2)], [(0,)], [None], ["01"], (0, 1), "", None,
                             {}, {(0, 1): 1}, [("0", "1")], [(0, None)], [{0: 1}], [(1, 2), (3, 1)]]:
            if thing != []:
                self.assertIs(is_common_row(ONE, OTHER, thing), False)
        self.assertIs(is_common_row([], [], []), True)
        self.assertIs(is_common_row([], [], [(0, 0)]), False)

    def test_by_definition(self):
        for rng in seeds(250):
            one, other = random_text(rng, 6), random_text(rng, 6)
            rows = slow_common_rows(one, other)
            most = max(map(len, rows))
            row = common_row(one, other)
            self.assertIn(row, rows)
            self.assertEqual(len(row), most)
            self.assertTrue(exact(common_row(one=as_tuples(one), other=other), row))
            for told in rows:
                self.assertIs(is_common_row(one, other, as_lists(told)), True)
            matches = slow_matches(one, other)
            for _ in range(20):
                thing = [rng.choice(matches) for _ in range(rng.randint(1, 3)) if matches]
                self.assertIs(is_common_row(one, other, thing), thing in rows)


class Covers(unittest.TestCase):
    def test_least_cover(self):
        self.assertTrue(exact(least_cover(ONE, OTHER), [[(0, 1), (2, 0)], [(1, 2), (3, 1)], [(2, 3), (4, 2)]]))
        self.assertTrue(exact(least_cover(other=("b",), one=("a", "b")), [[(1, 0)]]))
        self.assertTrue(exact([least_cover([], []), least_cover(["a"], ["b"])], [[], []]))

    def test_is_cover_of_any_object(self):
        told = least_cover(ONE, OTHER)
        for thing in (told, as_tuples(told), as_lists(told)[::-1], [part[::-1] for part in told],
                      [[match] for part in told for match in part]):
            self.assertIs(is_cover(ONE, OTHER, thing), True)
            self.assertIs(is_cover(thing=thing, other=OTHER, one=ONE), True)
        for thing in JUNK + [told[1:], told + [[]], told + [[(0, 1)]], [[(0, 1), (2, 0), (1, 2)], [(3, 1)], [(2, 3), (4, 2)]],
                             told[:-1] + [[(2, 3)]], told + [None], told[:-1] + [[(2, 3), (4, 2), (4, 2)]], [], (), "", None, {},
                             told[:-1] + [[(2, 3), (4, 3)]], told[:-1] + ["ab"], told[:-1] + [[(2, 3), (4, True)]],
                             told[0] + told[1] + told[2], [told], told[:-1] + [{(2, 3): 1, (4, 2): 2}],
                             [[(False, 1), (2, 0)]] + told[1:]]:
            self.assertIs(is_cover(ONE, OTHER, thing), False)
        self.assertIs(is_cover([], [], []), True)
        self.assertIs(is_cover(["a"], ["b"], ()), True)
        self.assertIs(is_cover(["a"], ["b"], [[]]), False)

    def test_by_definition_and_it_holds(self):
        right = 0
        for rng in seeds(200):
            one, other = random_text(rng, 6), random_text(rng, 5)
            rows = slow_common_rows(one, other)
            most = max(map(len, rows))
            ends = {match: max(len(row) for row in rows if row[-1:] == [match]) for match in slow_matches(one, other)}
            told = least_cover(one, other)
            self.assertTrue(exact(told, [[match for match in sorted(ends) if ends[match] == count]
                                         for count in range(1, most + 1)]))
            self.assertIs(is_cover(one, other, told), True)
            for row in rows:
                self.assertTrue(all(sum(match in part for match in row) <= 1 for part in told))
            for _ in range(15):
                parts = [[] for _ in range(rng.randint(1, 6))]
                for match in rng.sample(sorted(ends), len(ends)):
                    rng.choice(parts).append(match)
                parts = [part for part in parts if part]
                good = not any(a[0] < b[0] and a[1] < b[1] for part in parts for a in part for b in part)
                self.assertIs(is_cover(one, other, parts), good)
                if good:
                    right += len(parts) > 1
                    self.assertGreaterEqual(len(parts), most)
        self.assertGreater(right, 100)


class InAll(unittest.TestCase):
    def test_the_example_of_79(self):
        self.assertTrue(exact(many_common_rows(ONE, OTHER), 2))
        self.assertTrue(exact(matches_in_all(ONE, OTHER), []))
        self.assertTrue(exact(matches_in_some(ONE, OTHER), [(0, 1), (1, 2), (2, 0), (2, 3), (3, 1), (4, 2)]))
        self.assertTrue(exact(surely_kept(ONE, OTHER), [2]))
        self.assertTrue(exact(surely_taken(ONE, OTHER), []))

    def test_texts_without_a_word_in_common(self):
        for one, other in (([], []), (["a"], []), ([], ["a"]), (["a"], ["b"])):
            self.assertTrue(exact([many_common_rows(one, other), matches_in_all(other=other, one=one)], [1, []]))
            self.assertTrue(exact([matches_in_some(other=other, one=one), surely_kept(other=other, one=one),
                                   surely_taken(other=other, one=one)], [[], [], list(range(len(one)))]))
        self.assertEqual(many_common_rows(other=ONE, one=ONE), 1)
        self.assertEqual([surely_kept(ONE, ONE), surely_taken(ONE, ONE)], [[0, 1, 2, 3, 4], []])
        self.assertEqual(many_common_rows(["a"] * 6, ["a"] * 3), 20)

    def test_by_definition_and_facts(self):
        several = 0
        for rng in seeds(250):
            one, other = random_text(rng, 7), random_text(rng, 6)
            rows = slow_common_rows(one, other)
            longest = [set(row) for row in rows if len(row) == max(map(len, rows))]
            several += len(longest) > 1
            self.assertTrue(exact(many_common_rows(one, other), len(longest)))
            self.assertTrue(exact(matches_in_all(one, as_tuples(other)), sorted(set.intersection(*longest))))
            some = sorted(set.union(*longest))
            self.assertTrue(exact(matches_in_some(one, other), some))
            kept = [{place for place, _ in row} for row in longest]
            self.assertTrue(exact(surely_kept(one, other), sorted(set.intersection(*kept))))
            self.assertTrue(exact(surely_taken(one, other), sorted(set(range(len(one))) - set.union(*kept))))
            for i, j in slow_matches(one, other):
                ahead = len(common_row(one[:i], other[:j]))
                behind = len(common_row(one[i + 1:], other[j + 1:]))
                self.assertEqual((i, j) in some, ahead + 1 + behind == len(longest[0]))
        self.assertGreater(several, 100)

    def test_new_each_time(self):
        for call in (common_row, least_cover, matches_in_some, surely_kept):
            told = call(ONE, OTHER)
            call(ONE, OTHER).clear()
            self.assertTrue(exact(call(ONE, OTHER), told))
        least_cover(ONE, OTHER)[0].clear()
        self.assertEqual(len(least_cover(ONE, OTHER)[0]), 2)
        self.assertEqual([len(list(combinations(slow_matches(ONE, OTHER), 2)))], [15])


if __name__ == "__main__":
    unittest.main()
