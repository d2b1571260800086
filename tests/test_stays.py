"""Points 61 to 64: rings through lines, stayers, stays, levels, what is in all of the longest."""

import unittest
from itertools import combinations, permutations

from patchlots.errors import NoLive
from patchlots.pages import Page
from patchlots.reading import is_ring, reading
from patchlots.settling import fewest_orders, with_buried, with_orders
from patchlots.stays import (
    always_stay, fewest_buried, is_levelling, is_stay, longest_stay, ring_through, sometimes_stay,
    stay_levels, stayers,
)
from tests.helping import (
    JUNK, as_lists, as_tuples, caught, exact, random_page, seeds, slow_aheads, slow_loose, slow_reads,
    slow_stayers, slow_stays,
)

A0, A1, B0, C0, D0 = ("a", 0), ("a", 1), ("b", 0), ("c", 0), ("d", 0)
PAGE = Page(dict.fromkeys([A0, A1, B0, C0], ""), [(A0, A1), (A0, B0), (B0, A1), (A0, C0), (C0, A1)], [])
# c 0 and d 0 go round, the dead b 0 leads from a 0 to a 1.
ROUND = Page(dict.fromkeys([A0, A1, B0, C0, D0], ""), [(A0, B0), (B0, A1), (C0, D0), (D0, C0)], [B0])
EMPTY = Page({}, [], [])
DEAD = Page({A0: "", A1: ""}, [(A0, A1)], [A0, A1])


class Stayers(unittest.TestCase):
    def test_ring_through(self):
        self.assertTrue(exact(ring_through(ROUND, C0), [C0, D0]))
        self.assertTrue(exact(ring_through(line=["d", 0], page=ROUND), [D0, C0]))
        self.assertIsNone(ring_through(ROUND, A0))
        page = Page(dict.fromkeys([A0, A1, B0], ""), [(A0, A1), (A1, A0), (A1, B0), (B0, A0)], [A1, B0])
        self.assertEqual(ring_through(page, A0), [A0, A1])

    def test_no_live(self):
        for thing in JUNK + [B0, ["b", 0], ("a", 2), ("e", 0), "a0", "a", 0, ["a"], ("a", False)]:
            self.assertIs(caught(NoLive, ring_through, ROUND, thing).line, thing)
        self.assertEqual(caught(NoLive, ring_through, EMPTY, A0).line, A0)

    def test_stayers(self):
        self.assertTrue(exact(stayers(ROUND), [A0, A1]))
        self.assertTrue(exact(stayers(page=PAGE), [A0, A1, B0, C0]))
        self.assertEqual([stayers(EMPTY), stayers(DEAD)], [[], []])
        both = Page({A0: "", A1: ""}, [(A0, A1), (A1, A0)], [A1])
        self.assertEqual(stayers(both), [])

    def test_by_definition(self):
        rings = 0
        for rng in seeds(300):
            page = random_page(rng, 7)
            self.assertTrue(exact(stayers(page), slow_stayers(page)))
            for line in page.live():
                told = ring_through(page, as_lists(line))
                self.assertEqual(told is None, line in stayers(page))
                if told is not None:
                    rings += 1
                    self.assertEqual(told[0], line)
                    self.assertTrue(exact(told, ring_through(Page(page.lines(), page.orders()[::-1], page.dead()), line)))
                    self.assertIs(is_ring(page, told), True)
                    level, count = {line}, 0
                    while count == 0 or line not in level:
                        level, count = {b for a, b in page.orders() if a in level}, count + 1
                    self.assertEqual(len(told), count)
        self.assertGreater(rings, 100)

    def test_it_holds(self):
        for rng in seeds(60):
            page = random_page(rng, 5)
            staying = stayers(page)
            others = [line for line in page.live() if line not in staying]
            kept = with_buried(page, others)
            made = with_orders(kept, fewest_orders(kept))
            self.assertEqual(sorted(reading(made)), staying)
            pairs = list(permutations(page.lines(), 2))
            for _ in range(30):
                more = with_orders(page, rng.sample(pairs, min(len(pairs), rng.randint(0, 4))))
                more = with_buried(more, [line for line in page.lines() if rng.random() < 0.5])
                if slow_reads(more):
                    self.assertTrue(set(more.live()) <= set(staying))


class Stays(unittest.TestCase):
    def test_longest_stay(self):
        self.assertIn(longest_stay(page=PAGE), [[A0, B0, A1], [A0, C0, A1]])
        self.assertTrue(exact(longest_stay(ROUND), [A0, A1]))
        self.assertTrue(exact(fewest_buried(ROUND), 2))
        self.assertTrue(exact(fewest_buried(page=PAGE), 1))
        self.assertTrue(exact([longest_stay(EMPTY), longest_stay(DEAD), fewest_buried(EMPTY), fewest_buried(DEAD)],
                              [[], [], 0, 0]))

    def test_is_stay_of_any_object(self):
        for thing in ([], (), [A0], (B0,), [["a", 0], ("a", 1)], (A0, B0, A1), [A0, C0, A1], [A0, A1]):
            self.assertIs(is_stay(PAGE, thing), True)
            self.assertIs(is_stay(thing=thing, page=PAGE), True)
        for thing in JUNK + [[A1, A0], [A0, A0], [B0, C0], [A0, B0, C0], [A0, D0], [A0, ("a", True)], "", "a", A0, {},
                             {A0: 1}, [A0, None], [[A0]], [A0, B0, A1, A1], None, ["a", 0], [D0]]:
            if thing != (A0,):
                self.assertIs(is_stay(PAGE, thing), False)
        for thing in ([C0], [A0, C0], [A0, B0], [B0], [A1, A0]):
            self.assertIs(is_stay(ROUND, thing), False)
        self.assertIs(is_stay(EMPTY, []), True)
        self.assertIs(is_stay(DEAD, [A0]), False)

    def test_by_definition(self):
        several = 0
        for rng in seeds(250):
            page = random_page(rng, 6, rng.random() < 0.4)
            stays = slow_stays(page)
            most = max(len(stay) for stay in stays)
            told = longest_stay(page)
            self.assertIn(told, stays)
            self.assertEqual(len(told), most)
            self.assertTrue(exact(longest_stay(Page(page.lines(), as_lists(page.orders()), page.dead())), told))
            self.assertEqual(fewest_buried(page), min(
                count for count in range(len(page.live()) + 1) for lines in combinations(page.live(), count)
                if slow_reads(with_buried(page, lines))))
            for stay in stays:
                self.assertIs(is_stay(page, as_tuples(stay)), True)
                self.assertEqual(reading(with_buried(page, [line for line in page.live() if line not in stay])), stay)
            for _ in range(20):
                thing = [rng.choice(list(page.lines())) for _ in range(rng.randint(0, 3)) if page.lines()]
                self.assertIs(is_stay(page, thing), thing in stays)
            longest = [set(stay) for stay in stays if len(stay) == most]
            several += len(longest) > 1
            self.assertTrue(exact(always_stay(page), sorted(set.intersection(*longest))))
            self.assertTrue(exact(sometimes_stay(page), sorted(set.union(*longest))))
        self.assertGreater(several, 60)

    def test_in_all_and_in_some(self):
        self.assertTrue(exact(always_stay(page=PAGE), [A0, A1]))
        self.assertTrue(exact(sometimes_stay(page=PAGE), [A0, A1, B0, C0]))
        self.assertTrue(exact([always_stay(EMPTY), sometimes_stay(EMPTY), always_stay(DEAD), sometimes_stay(DEAD)],
                              [[], [], [], []]))
        lone = Page(dict.fromkeys([A0, A1, B0], ""), [(A0, A1)], [])
        self.assertEqual([always_stay(lone), sometimes_stay(lone)], [[A0, A1], [A0, A1]])

    def test_facts_of_levels(self):
        for rng in seeds(150):
            page = random_page(rng, 6, rng.random() < 0.4)
            levels = stay_levels(page)
            stays = slow_stays(page)
            longest = [stay for stay in stays if len(stay) == max(map(len, stays))]
            for stay in longest:
                self.assertEqual([sum(line in level for line in stay) for level in levels], [1] * len(levels))
            some = sometimes_stay(page)
            for line in some:
                level = next(level for level in levels if line in level)
                self.assertEqual(line in always_stay(page), not any(other in some for other in level if other != line))


class Levels(unittest.TestCase):
    def test_stay_levels(self):
        self.assertTrue(exact(stay_levels(page=PAGE), [[A0], [B0, C0], [A1]]))
        self.assertTrue(exact(stay_levels(ROUND), [[A0], [A1]]))
        self.assertTrue(exact([stay_levels(EMPTY), stay_levels(DEAD)], [[], []]))

    def test_is_levelling_of_any_object(self):
        for thing in ([[A0], [B0, C0], [A1]], ((A1,), (C0, ["b", 0]), (A0,)), [[A0], [B0], [C0], [A1]]):
            self.assertIs(is_levelling(PAGE, thing), True)
            self.assertIs(is_levelling(thing=thing, page=PAGE), True)
        for thing in JUNK + [[[A0], [B0, C0]], [[A0], [B0, C0], [A1], []], [[A0, B0], [C0], [A1]], [[A0], [B0, C0], [A1, A0]],
                             [[A0], [B0, C0, C0], [A1]], [[A0], [B0, C0], [A1], [D0]], [A0, B0, C0, A1], [[A0], "b", [A1]],
                             [[A0], [B0, C0], None], {}, "", None, [[A0], [B0, C0], [A1], [A1]], [], (), [[]],
                             [{A0: 1}, [B0, C0], [A1]], [[A0], [A1, B0], [C0]], [[A0], [B0, C0], [("a", True)]]]:
            self.assertIs(is_levelling(PAGE, thing), False)
        self.assertIs(is_levelling(EMPTY, []), True)
        self.assertIs(is_levelling(DEAD, ()), True)
        self.assertIs(is_levelling(DEAD, [[]]), False)
        self.assertIs(is_levelling(ROUND, [[A0], [A1]]), True)
        for thing in ([[A0], [A1], [C0]], [[A0], [A1], [B0]], [[A0, A1]]):
            self.assertIs(is_levelling(ROUND, thing), False)

    def test_by_definition_and_it_holds(self):
        good = 0
        for rng in seeds(250):
            page = random_page(rng, 6, rng.random() < 0.4)
            stays = slow_stays(page)
            most = max(map(len, stays))
            ends = {line: max(len(stay) for stay in stays if stay[-1:] == [line]) for line in slow_stayers(page)}
            wanted = [[line for line in sorted(ends) if ends[line] == count] for count in range(1, most + 1)]
            self.assertTrue(exact(stay_levels(page), wanted))
            self.assertIs(is_levelling(page, as_tuples(stay_levels(page))), True)
            self.assertEqual(len(stay_levels(page)), len(longest_stay(page)))
            for _ in range(15):
                parts = [[] for _ in range(rng.randint(0, 6))]
                for line in rng.sample(sorted(ends), len(ends)) if parts else []:
                    rng.choice(parts).append(line)
                parts = [part for part in parts if part]
                right = (sorted(sum(parts, [])) == sorted(ends)
                         and all(slow_loose(page, part) for part in parts))
                self.assertIs(is_levelling(page, parts), right)
                if right:
                    good += len(ends) > 1
                    self.assertGreaterEqual(len(parts), most)
        self.assertGreater(good, 150)

    def test_new_each_time(self):
        stay_levels(PAGE)[0].clear()
        for call in (stayers, longest_stay, stay_levels, always_stay, sometimes_stay):
            told = call(PAGE)
            call(PAGE).clear()
            self.assertTrue(exact(call(PAGE), told))
        ring_through(ROUND, C0).clear()
        self.assertEqual(ring_through(ROUND, C0), [C0, D0])
        self.assertNotIn((A1, A0), slow_aheads(PAGE))


if __name__ == "__main__":
    unittest.main()
