"""Points 65 and 66: worths and covers, columns and what is scattered."""

import unittest
from itertools import combinations

from patchlots.columns import (
    are_columns, columns, is_scattered, is_worth_cover, richest_stay, scattered, worth_cover,
)
from patchlots.errors import BadWorths
from patchlots.pages import Page
from tests.helping import (
    JUNK, as_lists, as_tuples, caught, exact, random_page, seeds, slow_loose, slow_stayers, slow_stays,
)

A0, A1, B0, C0, D0 = ("a", 0), ("a", 1), ("b", 0), ("c", 0), ("d", 0)
PAGE = Page(dict.fromkeys([A0, A1, B0, C0], ""), [(A0, A1), (A0, B0), (B0, A1), (A0, C0), (C0, A1)], [])
ROUND = Page(dict.fromkeys([A0, A1, B0, C0, D0], ""), [(A0, B0), (B0, A1), (C0, D0), (D0, C0)], [B0])
EMPTY = Page({}, [], [])
DEAD = Page({A0: "", A1: ""}, [(A0, A1)], [A0, A1])
WORTHS = {A0: 1, A1: 1, B0: 2, C0: 5}


def random_worths(rng, page):
    lines = slow_stayers(page)
    rng.shuffle(lines)
    return {line: rng.choice([0, 0, 1, 2, 3, 7, 10 ** 8]) for line in lines}


def random_covers(rng, page):
    """Lists of pairs that are covers now and then, of lines that are scattered for the most part."""
    lines = slow_stayers(page)
    for _ in range(12):
        pairs = []
        for _ in range(rng.randint(0, 4)):
            chosen = [line for line in lines if rng.random() < 0.5]
            while not slow_loose(page, chosen) and rng.random() < 0.9:
                chosen.pop(rng.randrange(len(chosen)))
            pairs.append((rng.choice([1, 2, 5, 10 ** 9]), chosen))
        yield pairs


def slow_fewest_columns(page):
    """By putting each stayer into a part of its own or a part that is there."""
    stays = {frozenset(stay) for stay in slow_stays(page)}
    found = [[]]
    for line in slow_stayers(page):
        found = [[*parts[:at], parts[at] | {line}, *parts[at + 1:]] for parts in found for at in range(len(parts))] + [
            [*parts, frozenset([line])] for parts in found]
    return min(len(parts) for parts in found if all(part in stays for part in parts))


class Worths(unittest.TestCase):
    def test_the_example_of_71(self):
        self.assertTrue(exact(richest_stay(PAGE, WORTHS), (7, [A0, C0, A1])))
        self.assertTrue(exact(richest_stay(worths=WORTHS, page=PAGE), (7, [A0, C0, A1])))
        self.assertEqual(sum(number for number, _ in worth_cover(worths=WORTHS, page=PAGE)), 7)

    def test_no_worth_at_all(self):
        for page in (EMPTY, DEAD):
            self.assertTrue(exact([richest_stay(page, {}), worth_cover(page, {})], [(0, []), []]))
        nothing = dict.fromkeys(WORTHS, 0)
        self.assertEqual(richest_stay(PAGE, nothing)[0], 0)
        self.assertEqual(worth_cover(PAGE, nothing), [])
        for thing in ([], (), [(1, [])], [[3, (B0, C0)]]):
            self.assertIs(is_worth_cover(PAGE, nothing, thing), True)

    def test_bad_worths(self):
        calls = [richest_stay, worth_cover, lambda page, worths: is_worth_cover(page, worths, None)]
        for call in calls:
            for key in ("a", 0, None, ("a", 2), D0, ("a", 0, 0), True, ("b", False, 0)):
                self.assertIs(caught(BadWorths, call, PAGE, {A0: 1, key: 1, "zz": 0}).thing, key)
            for worth in JUNK + [-1, True, False, None, "1", [1], (), {}]:
                if worth != 10 ** 17:
                    self.assertEqual(caught(BadWorths, call, PAGE, {C0: 1, B0: worth, A0: None}).thing, B0)
            self.assertEqual(caught(BadWorths, call, PAGE, {A0: 1, C0: 1}).thing, A1)
            self.assertEqual(caught(BadWorths, call, PAGE, {}).thing, A0)
            self.assertEqual(caught(BadWorths, call, PAGE, {A0: 1, B0: 1, A1: 2}).thing, C0)
            self.assertEqual(caught(BadWorths, call, ROUND, {A1: 1, B0: 1, A0: 1}).thing, B0)
            self.assertEqual(caught(BadWorths, call, ROUND, {C0: 1}).thing, C0)
            for thing in (None, True, 3, "", [], (), [(A0, 1)], PAGE, (A0, 1)):
                self.assertIs(caught(BadWorths, call, PAGE, thing).thing, thing)
            self.assertEqual(caught(BadWorths, call, EMPTY, {A0: 1}).thing, A0)

    def test_is_worth_cover_of_any_object(self):
        told = worth_cover(PAGE, WORTHS)
        for thing in (told, as_tuples(told), as_lists(told), told[::-1], told + [(1, [])],
                      [(1, [A0]), (1, [["a", 1]]), (5, (C0, B0))], [(1, [A0]), (1, [A1]), (5, [C0]), (2, [B0])],
                      [(1, [A0]), (1, [A1]), (2, [C0, B0]), (4, [C0])]):
            self.assertIs(is_worth_cover(PAGE, WORTHS, thing), True)
            self.assertIs(is_worth_cover(thing=thing, worths=WORTHS, page=PAGE), True)
        for thing in JUNK + [[], [(1, [A0]), (1, [A1]), (5, [C0]), (1, [B0])], [(5, [A0, C0]), (1, [A1]), (2, [B0])],
                             [(0, []), *told], [(True, []), *told], [(1, None), *told], [(1, [], 3), *told], told + [None],
                             told + [(1, [D0])], told + [(1, [A0, A0])], told + [("1", [])], told + [(-1, [])], "", None, {},
                             told + ["1a"], told + [(1, "a")], told + [(1, [("a", True)])], told + [[1]], told + [(1, {A0: 1})]]:
            self.assertIs(is_worth_cover(PAGE, WORTHS, thing), False)
        self.assertIs(is_worth_cover(EMPTY, {}, []), True)
        self.assertIs(is_worth_cover(ROUND, {A0: 0, A1: 0}, [(1, [C0])]), False)

    def test_by_definition_and_it_holds(self):
        right = 0
        for rng in seeds(200):
            page = random_page(rng, 7, rng.random() < 0.4)
            worths = random_worths(rng, page)
            stays = slow_stays(page)
            most = max(sum(worths[line] for line in stay) for stay in stays)
            total, stay = richest_stay(page, worths)
            self.assertTrue(exact(richest_stay(Page(page.lines(), page.orders(), page.dead()), dict(worths)), (total, stay)))
            self.assertTrue(exact((total, stay), (most, stay)))
            self.assertIn(stay, stays)
            self.assertEqual(sum(worths[line] for line in stay), most)
            cover = worth_cover(page, worths)
            self.assertTrue(exact(cover, [(number, sorted(lines)) for number, lines in cover]))
            self.assertTrue(exact(worth_cover(page, worths), cover))
            self.assertIs(is_worth_cover(page, worths, as_tuples(cover)), True)
            self.assertEqual(sum(number for number, _ in cover), most)
            self.assertLessEqual(len(cover), 40)
            for pairs in random_covers(rng, page):
                good = all(slow_loose(page, lines) for _, lines in pairs) and all(
                    sum(number for number, lines in pairs if line in lines) >= worths[line] for line in worths)
                self.assertIs(is_worth_cover(page, worths, pairs), good)
                if good:
                    right += 1
                    self.assertGreaterEqual(sum(number for number, _ in pairs), most)
        self.assertGreater(right, 100)

    def test_later_changes_have_no_effect(self):
        worth_cover(PAGE, WORTHS)[0][1].clear()
        richest_stay(PAGE, WORTHS)[1].clear()
        self.assertEqual(richest_stay(PAGE, WORTHS)[1], [A0, C0, A1])
        self.assertNotEqual(worth_cover(PAGE, WORTHS)[0][1], [])
        self.assertEqual(list(WORTHS), [A0, A1, B0, C0])


class Columns(unittest.TestCase):
    def test_columns_and_scattered(self):
        self.assertEqual(len(columns(page=PAGE)), 2)
        self.assertTrue(exact(scattered(page=PAGE), [B0, C0]))
        self.assertTrue(exact(columns(ROUND), [[A0, A1]]))
        self.assertEqual(len(scattered(ROUND)), 1)
        for page in (EMPTY, DEAD):
            self.assertTrue(exact([columns(page), scattered(page)], [[], []]))

    def test_are_columns_of_any_object(self):
        for thing in ([[A0, B0, A1], [C0]], ((C0,), (A0, ["b", 0], A1)), [[A0, A1], [B0], [C0]], [[A0, C0], [B0, A1]]):
            self.assertIs(are_columns(PAGE, thing), True)
            self.assertIs(are_columns(thing=thing, page=PAGE), True)
        for thing in JUNK + [[[A0, B0, A1]], [[A0, B0, A1], [C0], []], [[A0, A1, B0], [C0]], [[A0, B0, A1], [A0, C0]], [],
                             [[A0, B0, C0, A1]], [A0, B0, A1, C0], [[A0, B0, A1], [C0], [D0]], [[A0, B0, A1], "c"], None, "",
                             {}, [[A0, B0, A1], None], [[A0, B0, A1], {C0: 1}], [[A0, B0, ("a", True)], [C0]]]:
            self.assertIs(are_columns(PAGE, thing), False)
        self.assertIs(are_columns(EMPTY, ()), True)
        self.assertIs(are_columns(DEAD, []), True)
        self.assertIs(are_columns(DEAD, [[]]), False)
        self.assertIs(are_columns(ROUND, [[A0, A1], [C0]]), False)

    def test_is_scattered_of_any_object(self):
        for thing in ([B0, C0], (["c", 0], B0), [A0], (), []):
            self.assertIs(is_scattered(PAGE, thing), True)
            self.assertIs(is_scattered(thing=thing, page=PAGE), True)
        for thing in JUNK + [[A0, B0], [B0, A1, C0], [B0, B0], [B0, D0], [[B0, C0]], "b", None, "", {}, {B0: 1}, B0, [B0, None],
                             [A1, A0], [("a", True)]]:
            if thing != (A0,):
                self.assertIs(is_scattered(PAGE, thing), False)
        self.assertIs(is_scattered(ROUND, [C0]), False)
        self.assertIs(is_scattered(ROUND, [B0]), False)
        self.assertIs(is_scattered(EMPTY, []), True)

    def test_by_definition_and_it_holds(self):
        met = set()
        for rng in seeds(250):
            page = random_page(rng, 7, rng.random() < 0.3)
            lines = slow_stayers(page)
            told, loose = columns(page), scattered(page)
            self.assertIs(are_columns(page, as_lists(told)), True)
            self.assertIs(is_scattered(page, as_tuples(loose)), True)
            self.assertEqual(loose, sorted(loose))
            self.assertTrue(exact([columns(page), scattered(page)], [told, loose]))
            self.assertEqual(len(told), len(loose))
            met.add((len(lines), len(told)))
            families = [chosen for count in range(len(lines) + 1) for chosen in combinations(lines, count)
                        if slow_loose(page, chosen)]
            self.assertEqual(len(loose), max(map(len, families)))
            for count in range(len(lines) + 1):
                for chosen in combinations(lines, count):
                    self.assertIs(is_scattered(page, list(chosen)[::-1]), chosen in families)
            if len(lines) < 6:
                self.assertEqual(len(told), slow_fewest_columns(page))
        self.assertGreater(len(met), 15)

    def test_links_that_have_to_be_let_go(self):
        # Each line of the first row goes to two of the second one but the last, which goes to one.
        lines = [("l", number) for number in range(12)]
        orders = [(lines[at], lines[6 + at]) for at in range(6)] + [(lines[at + 1], lines[6 + at]) for at in range(5)]
        for rng in seeds(20):
            names = rng.sample([("m", number) for number in range(12)], 12)
            called = dict(zip(lines, names))
            page = Page(dict.fromkeys(names, ""), [(called[a], called[b]) for a, b in orders], [])
            self.assertEqual([len(columns(page)), len(scattered(page))], [6, 6])
            self.assertIs(are_columns(page, columns(page)), True)
            self.assertIs(is_scattered(page, scattered(page)), True)

    def test_new_each_time(self):
        columns(PAGE)[0].clear()
        scattered(PAGE).clear()
        self.assertEqual([sum(map(len, columns(PAGE))), scattered(PAGE)], [4, [B0, C0]])


if __name__ == "__main__":
    unittest.main()
