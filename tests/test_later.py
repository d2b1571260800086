"""Points 112 to 116: companies, what tells two pages apart for all that may come, what is kept."""

import unittest
from itertools import combinations, permutations, product

from patchlots.errors import BadPick, LacksLive, NoCompany
from patchlots.later import (
    both_read, is_company, kept_page, parting_company, shared_lines, told_apart,
)
from patchlots.pages import Page
from patchlots.reading import reading
from patchlots.rows import rows_of, seen
from tests.helping import JUNK, as_lists, caught, exact, random_page, seeds, slow_aheads

A0, A1, B0, C0 = ("a", 0), ("a", 1), ("b", 0), ("c", 0)
LINES = [A0, A1, B0, C0, ("d", 0)]


def random_pair(rng):
    """Two pages with much in common."""
    most = rng.randint(1, 5)
    words = {line: rng.choice(["x", "y"]) for line in LINES[:most]}
    dead = [line for line in words if rng.random() < 0.4]
    pairs = list(permutations(words, 2)) if rng.random() < 0.3 else list(combinations(words, 2))
    orders = [pair for pair in pairs if rng.random() < 0.3]
    pages = []
    for _ in range(2):
        told = {line: word if rng.random() < 0.97 else "z" for line, word in words.items()}
        for line in dead:
            if rng.random() < 0.15:
                del told[line]
        more = [pair for pair in pairs if rng.random() < 0.06]
        pages.append(Page(told, [pair for pair in orders + more if rng.random() < 0.95 and pair[0] in told and pair[1] in told],
                          [line for line in told if (line in dead) != (rng.random() < 0.03)]))
    return pages


def random_company(rng, one, other):
    shared = shared_lines(one, other)
    words = {line: one.lines()[line] for line in shared if rng.random() < 0.8}
    words.update({("n", number): "" for number in range(rng.choice([0, 1, 2]))})
    pairs = list(permutations(words, 2))
    return Page(words, rng.sample(pairs, min(len(pairs), rng.randint(0, 3))),
                [line for line in words if line[0] != "n" and rng.random() < 0.6])


def slow_shared(one, other):
    return [line for line in one.lines() if line in other.lines() and one.lines()[line] == other.lines()[line]
            and (line in one.dead()) == (line in other.dead())]


def slow_told(one, other):
    lines = sorted({*one.lines(), *other.lines()})
    for line in lines:
        living = [line in page.live() for page in (one, other)]
        if living[0] != living[1] or all(living) and one.lines()[line] != other.lines()[line]:
            return ("live", line)
    shared = slow_shared(one, other)
    ways = [slow_aheads(page) for page in (one, other)]
    for pair in product(shared, repeat=2):
        if (pair in ways[0]) != (pair in ways[1]) and (pair[0] != pair[1] or pair[0] in one.live()):
            return ("ahead", *pair)
    return None


class Companies(unittest.TestCase):
    def test_shared_lines(self):
        one = Page({A0: "x", A1: "y", B0: "z", C0: ""}, [], [B0, C0])
        other = Page({C0: "", B0: "z", A1: "w", A0: "x", ("d", 0): ""}, [], [C0])
        self.assertTrue(exact(shared_lines(one, other), [A0, C0]))
        self.assertTrue(exact(shared_lines(other=one, one=other), [A0, C0]))
        # Pages that share nothing.
        self.assertTrue(exact(shared_lines(one, Page({}, [], [])), []))

    def test_is_company(self):
        one = Page({A0: "x", A1: "y", B0: "z", C0: ""}, [(A0, A1)], [B0, C0])
        other = Page({A0: "x", A1: "w", B0: "z", C0: ""}, [], [C0])
        for more in (Page({}, [], []), Page({A0: "x", C0: ""}, [(C0, A0)], [A0]), Page({("e", 0): "q", A0: "x"}, [(A0, ("e", 0))], [])):
            self.assertIs(is_company(one, other, more), True)
            self.assertIs(is_company(thing=more, other=one, one=other), True)
        for words in ({A0: "y"}, {A1: "y"}, {A1: "w"}, {B0: "z"}, {C0: " "}, {A0: "x", B0: "z"}):
            self.assertIs(is_company(one, other, Page(words, [], [])), False)
        self.assertIs(is_company(Page({A1: "y"}, [], []), Page({}, [], []), Page({A1: "y"}, [], [])), False)
        self.assertIs(is_company(Page({}, [], []), Page({A1: "y"}, [], []), Page({A1: "y"}, [], [])), False)
        for thing in JUNK + [3, "", {A0: "x"}, [one]]:
            if not isinstance(thing, Page):
                self.assertIs(is_company(one, other, thing), False)
                self.assertIs(caught(NoCompany, both_read, one, other, thing).thing, thing)
        wrong = Page({A1: "y"}, [], [])
        self.assertIs(caught(NoCompany, both_read, one, other, wrong).thing, wrong)

    def test_both_read(self):
        one = Page({A0: "x", A1: "y"}, [(A0, A1)], [])
        other = Page({A0: "x", A1: "y"}, [], [])
        self.assertTrue(exact(both_read(one, other, Page({}, [], [])), ([A0, A1], None)))
        self.assertTrue(exact(both_read(more=Page({A0: "x", A1: "y"}, [(A1, A0)], []), other=other, one=one), (None, [A1, A0])))

    def test_by_definition(self):
        met = {True: 0, False: 0}
        for rng in seeds(200):
            one, other = random_pair(rng)
            self.assertTrue(exact(shared_lines(one, other), slow_shared(one, other)))
            more = random_company(rng, one, other)
            self.assertIs(is_company(one, other, more), True)
            self.assertTrue(exact(both_read(one, other, more), (reading(one | more), reading(other | more))))
            drawn = random_page(rng, 2)
            shared = slow_shared(one, other)
            right = all(line in shared and one.lines()[line] == words or line not in one.lines() and line not in other.lines()
                        for line, words in drawn.lines().items())
            self.assertIs(is_company(one, other, drawn), right)
            met[right] += 1
        self.assertGreater(min(met.values()), 20)


class Apart(unittest.TestCase):
    def test_plain(self):
        one = Page({A0: "x", A1: "y"}, [(A0, A1)], [])
        self.assertIsNone(told_apart(one, one))
        self.assertIsNone(parting_company(one, one))
        self.assertTrue(exact(told_apart(one, Page({A0: "x"}, [], [])), ("live", A1)))
        self.assertTrue(exact(told_apart(one, Page({A0: "x", A1: "z"}, [(A0, A1)], [])), ("live", A1)))
        self.assertTrue(exact(told_apart(one, Page({A0: "x", A1: "y"}, [], [A0, A1])), ("live", A0)))
        self.assertTrue(exact(told_apart(other=Page({A0: "x", A1: "y"}, [], []), one=one), ("ahead", A0, A1)))
        self.assertIsNone(parting_company(one, Page({A0: "x"}, [], [])))
        # Dead lines that only one has, or that say other words, are shared by none.
        self.assertIsNone(told_apart(one, Page({A0: "x", A1: "y", B0: ""}, [(A0, A1)], [B0])))
        self.assertIsNone(told_apart(Page({A0: "x", B0: "p"}, [(A0, B0)], [B0]), Page({A0: "x", B0: "q"}, [(B0, A0)], [B0])))

    def test_pages_that_share_nothing(self):
        one, other = Page({A0: "x", B0: "y"}, [(A0, B0), (B0, A0)], [A0, B0]), Page({A1: "z"}, [], [A1])
        for first, second in ((one, other), (one, Page({}, [], [])), (one, Page({A0: "q", B0: "y"}, [], [A0]))):
            self.assertEqual(told_apart(first, Page({A1: "z"}, [], [A1])), None)
            self.assertIsNone(parting_company(first, Page({A1: "z"}, [], [A1])))
            if second.live() == []:
                self.assertIsNone(told_apart(second, first))
        more = Page({C0: "c", ("d", 0): "d"}, [(("d", 0), C0)], [])
        self.assertEqual(both_read(one, other, more), ([("d", 0), C0], [("d", 0), C0]))
        self.assertEqual(told_apart(one, Page({A1: "z"}, [], [])), ("live", A1))

    def test_one_line_told_twice(self):
        words = {A0: "x", A1: "y", B0: "", C0: ""}
        one = Page(words, [(A1, B0), (B0, A1), (A0, A1)], [B0, C0])
        other = Page({A0: "x", A1: "y", C0: ""}, [(A0, A1)], [C0])
        self.assertTrue(exact(told_apart(one, other), ("ahead", A1, A1)))
        self.assertEqual(parting_company(one, other), Page({A0: "x", A1: "y"}, [], [A0]))
        # Where the dead line is shared, it is told: by itself it tells nothing.
        ring = Page(words, [(B0, C0), (C0, B0)], [B0, C0])
        self.assertIsNone(told_apart(ring, Page({A0: "x", A1: "y", B0: ""}, [], [B0])))
        self.assertEqual(told_apart(ring, Page(words, [], [B0, C0])), ("ahead", B0, C0))

    def test_parting_company(self):
        words = {A0: "x", A1: "y", B0: "p", ("new1", 4): ""}
        one = Page(words, [(A0, B0), (B0, A1)], [B0, ("new1", 4)])
        other = Page({A0: "x", A1: "y", B0: "p", ("new2", 0): ""}, [(A0, A1), (B0, A1)], [B0, ("new2", 0)])
        self.assertEqual(told_apart(one, other), ("ahead", A0, B0))
        wanted = Page({A0: "x", A1: "y", B0: "p", ("new0", 0): "", ("new3", 0): ""},
                      [(("new0", 0), A0), (B0, ("new3", 0))], [A0, A1])
        self.assertEqual(parting_company(one, other), wanted)
        self.assertEqual(parting_company(other=one, one=other), wanted)
        self.assertEqual(both_read(one, other, wanted), ([("new0", 0), ("new3", 0)], None))

    def test_by_definition_and_it_holds(self):
        met = {}
        for rng in seeds(400):
            one, other = random_pair(rng)
            told = told_apart(one, other)
            self.assertTrue(exact(told, slow_told(one, other)))
            company = parting_company(one, other)
            if told is None:
                self.assertIsNone(company)
                for _ in range(6):
                    first, second = both_read(one, other, random_company(rng, one, other))
                    self.assertEqual(first, second)
            elif told[0] == "live":
                self.assertIsNone(company)
            else:
                self.assertIs(is_company(one, other, company), True)
                self.assertEqual([told is None for told in both_read(one, other, company)].count(True), 1)
                new = [line for line in company.lines() if line not in one.lines()]
                self.assertEqual(len(new), 0 if told[1] == told[2] else 2)
                wanted = set(one.live()) | set(told[1:]) | set(new)
                self.assertEqual(set(company.lines()), wanted)
            kind = None if told is None else told[0] if told[1:2] != told[2:] else "twice"
            met[kind] = met.get(kind, 0) + 1
        self.assertGreater(min(met[kind] for kind in (None, "live", "ahead", "twice")), 4)

    def test_facts(self):
        alike = 0
        for rng in seeds(150):
            one, other = random_pair(rng)
            lines = list(one.lines())
            self.assertIsNone(told_apart(one, Page({**one.lines(), ("k", 0): "k"}, one.orders(), one.dead() + [("k", 0)])))
            ways = sorted(pair for pair in slow_aheads(one) if pair[0] != pair[1])
            self.assertIsNone(told_apart(one, Page(one.lines(), one.orders() + ways[:1], one.dead())))
            self.assertEqual(lines, list(one.lines()))
            if told_apart(one, other) is None:
                for _ in range(3):
                    more = random_company(rng, one, other)
                    self.assertIsNone(told_apart(one | more, other | more))
                    alike += 1
        self.assertGreater(alike, 100)

    def test_alike_to_a_third_one(self):
        words = {A0: "x", A1: "y", B0: ""}
        one, other = Page(words, [(A0, B0)], [B0]), Page(words, [], [B0])
        third = Page({A0: "x", A1: "y"}, [], [])
        self.assertEqual([told_apart(one, third), told_apart(third, other)], [None, None])
        self.assertEqual(told_apart(one, other), ("ahead", A0, B0))


class Kept(unittest.TestCase):
    def test_plain(self):
        page = Page({A0: "x", A1: "y", B0: "z", C0: ""}, [(A0, B0), (B0, A1), (C0, A1)], [B0, C0])
        self.assertEqual(kept_page(page, [A1, A0]), Page({A0: "x", A1: "y"}, [(A0, A1)], []))
        self.assertEqual(kept_page(lines=(["a", 0], B0, A1), page=page), Page({A0: "x", A1: "y", B0: "z"}, [(A0, A1), (A0, B0), (B0, A1)], [B0]))
        self.assertEqual(kept_page(Page({}, [], []), []), Page({}, [], []))

    def test_errors(self):
        page = Page({A0: "x", A1: "y", B0: "z", C0: ""}, [], [B0, C0])
        for thing in (None, True, 3, "", "ab", {}, {A0: 1, A1: 2}, page):
            self.assertEqual(caught(BadPick, kept_page, page, thing).index, 0)
        for thing in JUNK + [3, "", "a0", A0, ["a", 0], ("a", 2), ("b", False)]:
            self.assertEqual(caught(BadPick, kept_page, page, [A0, B0, thing, None]).index, 2)
        self.assertTrue(exact(caught(LacksLive, kept_page, page, [B0]).line, A0))
        self.assertTrue(exact(caught(LacksLive, kept_page, page, [C0, A0]).line, A1))

    def test_by_definition_and_it_holds(self):
        met = {}
        for rng in seeds(400):
            page = random_page(rng, 6, rng.random() < 0.4, (0, 0.6))
            lines = [line for line in page.lines() if line in page.live() or rng.random() < 0.5]
            rng.shuffle(lines)
            ways = slow_aheads(page)
            made = kept_page(page, as_lists(lines))
            self.assertEqual(made, Page({line: page.lines()[line] for line in lines}, [pair for pair in permutations(lines, 2) if pair in ways],
                                        [line for line in page.dead() if line in lines]))
            around = [line for line in page.live() if (line, line) in ways and (line, line) not in slow_aheads(made)]
            self.assertEqual(told_apart(page, made), ("ahead", around[0], around[0]) if around else None)
            met[len(around) > 0] = met.get(len(around) > 0, 0) + 1
            if not any(one == other for one, other in ways):
                alone = kept_page(page, page.live())
                self.assertEqual(rows_of(alone), rows_of(seen(page)))
        self.assertGreater(min(met.values()), 5)

    def test_it_holds_of_two_pages(self):
        met = {}
        for rng in seeds(300):
            one, other = random_pair(rng)
            if one.live() != other.live() or any(one.lines()[line] != other.lines()[line] for line in one.live()):
                continue
            shared = shared_lines(one, other)
            turning = [[line for line in page.live() if (line, line) in slow_aheads(page)] for page in (one, other)]
            same = kept_page(one, shared) == kept_page(other, shared) and turning[0] == turning[1]
            self.assertEqual(told_apart(one, other) is None, same)
            met[same] = met.get(same, 0) + 1
        self.assertGreater(min(met.values()), 20)


if __name__ == "__main__":
    unittest.main()
