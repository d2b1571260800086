"""Points 13 to 15: rows, pages out of rows, pages as they are seen."""

import unittest
from itertools import combinations, permutations, product
from math import factorial

from patchlots.errors import BadLines, BadRow
from patchlots.pages import Page
from patchlots.reading import is_ahead, reading, ring
from patchlots.rows import all_between, how_many_rows, is_row, page_of_rows, rows_of, seen
from tests.helping import (
    JUNK, as_lists, as_tuples, caught, exact, random_page, seeds, slow_aheads, slow_reads, slow_rows,
)

A0, A1, B0, C0 = ("a", 0), ("a", 1), ("b", 0), ("c", 0)
LINES = {A0: "1", A1: "2", B0: "3", C0: "4"}


class Rows(unittest.TestCase):
    def test_the_example_of_19(self):
        page = Page(LINES, [(A0, A1), (A0, B0), (B0, A1), (A0, C0), (C0, A1)], [])
        self.assertTrue(exact(rows_of(page), [[A0, B0, C0, A1], [A0, C0, B0, A1]]))
        self.assertTrue(exact(how_many_rows(page), 2))

    def test_no_live_lines(self):
        for page in (Page({}, [], []), Page({A0: ""}, [], [A0])):
            self.assertTrue(exact(rows_of(page), [[]]))
            self.assertTrue(exact(how_many_rows(page), 1))
            self.assertIs(is_row(page, []), True)
            self.assertIs(is_row(page, ()), True)
            self.assertIs(is_row(page, [A0]), False)

    def test_dead_ones_order_live_ones(self):
        page = Page(LINES, [(C0, B0), (B0, A0)], [B0])
        self.assertEqual(rows_of(page), [[A1, C0, A0], [C0, A0, A1], [C0, A1, A0]])

    def test_rings(self):
        page = Page(LINES, [(A0, A1), (A1, A0)], [])
        self.assertEqual([rows_of(page), how_many_rows(page)], [[], 0])
        self.assertIs(is_row(page, [A0, A1, B0, C0]), False)
        page = Page(LINES, [(A0, A1), (A1, A0)], [A1])
        self.assertEqual([len(rows_of(page)), how_many_rows(page)], [6, 6])
        self.assertIs(is_row(page, [C0, A0, B0]), True)
        page = Page(LINES, [(A0, C0), (C0, B0), (B0, A0)], [C0])
        self.assertEqual(rows_of(page), [])

    def test_by_definition_and_facts(self):
        for rng in seeds(250):
            page = random_page(rng, 5, rings=rng.random() < 0.6)
            wanted = sorted(slow_rows(page))
            self.assertTrue(exact(rows_of(page), wanted))
            self.assertTrue(exact(how_many_rows(page), len(wanted)))
            for row in permutations(page.live()):
                self.assertIs(is_row(page, list(row)), list(row) in wanted)
            ahead = slow_aheads(page)
            live = page.live()
            mutual = any((a, b) in ahead and (b, a) in ahead for a, b in combinations(live, 2))
            self.assertEqual(wanted == [], mutual)
            if ring(page) is None:
                self.assertEqual(slow_reads(page), len(wanted) == 1)
                for one, other in permutations(live, 2):
                    self.assertEqual((one, other) in ahead,
                                     all(row.index(one) < row.index(other) for row in wanted))

    def test_is_row_of_any_object(self):
        page = Page(LINES, [(A0, A1)], [C0])
        for thing in ([A0, A1, B0], (B0, A0, A1), [["a", 0], B0, ("a", 1)]):
            self.assertIs(is_row(page, thing), True)
            self.assertIs(is_row(thing=as_lists(thing), page=page), True)
            self.assertIs(is_row(page, as_tuples(thing)), True)
        for thing in JUNK + [[A1, A0, B0], [A0, A1], [A0, A1, B0, C0], [A0, A1, B0, B0], [A0, A1, C0], [], "",
                             {A0: 1, A1: 1, B0: 1}, [A0, A1, ("b", False)], [A0, A1, None], [[A0, A1, B0]], A0]:
            self.assertIs(is_row(page, thing), False)

    def test_new_each_time(self):
        page = Page(LINES, [(A0, A1)], [])
        told = rows_of(page)
        told[0].clear()
        told.clear()
        self.assertEqual(len(rows_of(page)), 12)
        self.assertEqual(rows_of(page=page)[0], [A0, A1, B0, C0])

    def test_many(self):
        names = [("l", number) for number in range(12)]
        page = Page({line: "" for line in names}, [], [])
        self.assertEqual(how_many_rows(page), factorial(12))
        self.assertEqual(how_many_rows(page=Page({line: "" for line in names[:6]}, [], [])), 720)


class OutOfRows(unittest.TestCase):
    def test_orders_of_all_rows(self):
        page = page_of_rows(LINES, [[A0, B0, C0, A1], [A0, C0, B0, A1]])
        self.assertEqual(page, Page(LINES, [(A0, B0), (A0, C0), (A0, A1), (B0, A1), (C0, A1)], []))
        self.assertEqual(page_of_rows(rows=([["a", 0], B0, C0, A1], (A0, C0, B0, ["a", 1])), lines=LINES), page)
        self.assertTrue(exact(list(page.lines()), [A0, A1, B0, C0]))
        self.assertEqual(page_of_rows(LINES, [[C0, B0, A1, A0]] * 3).orders(),
                         [(A1, A0), (B0, A0), (B0, A1), (C0, A0), (C0, A1), (C0, B0)])

    def test_no_lines(self):
        self.assertEqual(page_of_rows({}, [[]]), Page({}, [], []))
        self.assertEqual(all_between({}, [[], ()]), [[]])
        self.assertEqual(caught(BadRow, page_of_rows, {}, []).index, 0)
        self.assertEqual(caught(BadRow, page_of_rows, {}, [[], [A0]]).index, 1)

    def test_all_between(self):
        told = all_between(LINES, [[A0, A1, B0, C0], [A0, C0, B0, A1]])
        self.assertTrue(exact(told, rows_of(page_of_rows(LINES, [[A0, A1, B0, C0], [A0, C0, B0, A1]]))))
        self.assertEqual(len(told), 6)
        self.assertEqual(all_between(rows=[(B0, A0)], lines={A0: "", B0: ""}), [[B0, A0]])

    def test_it_holds(self):
        for rng in seeds(120):
            lines = {line: "" for line in rng.sample([A0, A1, B0, C0], rng.randint(1, 4))}
            every = [list(row) for row in permutations(sorted(lines))]
            rows = [rng.choice(every) for _ in range(rng.randint(1, 3))]
            page = page_of_rows(lines, rows)
            ahead = slow_aheads(page)
            pairs = {pair for pair in permutations(lines, 2)
                     if all(row.index(pair[0]) < row.index(pair[1]) for row in rows)}
            self.assertEqual(set(page.orders()), pairs)
            kept = [row for row in every if all(row.index(one) < row.index(other) for one, other in pairs)]
            self.assertEqual(all_between(lines, rows), kept)
            self.assertTrue(all(row in kept for row in rows))
            other = random_page(rng, 4)
            other = Page(lines, [pair for pair in other.orders() if pair[0] in lines and pair[1] in lines], [])
            if all(is_row(other, row) for row in rows):
                self.assertTrue(slow_aheads(other) <= ahead)

    def test_errors(self):
        for call in (page_of_rows, all_between):
            good = [A0, A1, B0, C0]
            for thing in JUNK + [good[:3], good + [A0], [A0, A1, B0, B0], [], "", {}, LINES, [A0, A1, B0, ("c", False)],
                                 [A0, A1, B0, ("d", 0)], A0]:
                self.assertEqual(caught(BadRow, call, LINES, [good, tuple(good), thing, None]).index, 2)
            for thing in (None, True, 0, "", "ab", {}, {1: 2}, [], (), Page({}, [], [])):
                self.assertEqual(caught(BadRow, call, LINES, thing).index, 0)
            self.assertEqual(caught(BadRow, call, LINES, good).index, 0)
            self.assertIs(caught(BadLines, call, {A0: "x", "a": "x"}, []).thing, "a")
            self.assertEqual(caught(BadLines, call, {A0: "\n"}, None).thing, A0)
            for thing in (None, [], [A0], "a", True):
                self.assertIs(caught(BadLines, call, thing, None).thing, thing)


class Seen(unittest.TestCase):
    def test_seen(self):
        page = Page(LINES, [(A0, A1), (A1, B0), (A0, B0), (B0, C0)], [B0])
        self.assertEqual(seen(page), Page({A0: "1", A1: "2", C0: "4"}, [(A0, A1), (A1, C0)], []))
        self.assertEqual(seen(page=Page({}, [], [])), Page({}, [], []))
        page = Page(LINES, [(A0, A1), (A1, A0), (A1, B0)], [C0])
        self.assertEqual(seen(page), Page({A0: "1", A1: "2", B0: "3"}, [(A0, A1), (A1, A0)], []))
        page = Page(LINES, [(A0, C0), (C0, A0)], [C0])
        self.assertEqual(seen(page), Page({A0: "1", A1: "2", B0: "3"}, [], []))

    def test_by_definition_and_it_holds(self):
        for rng in seeds(250):
            page = random_page(rng, 5, rings=rng.random() < 0.5)
            ahead = slow_aheads(page)
            live = page.live()
            orders = [(one, other) for one, other in permutations(live, 2) if (one, other) in ahead
                      and not any((one, line) in ahead and (line, other) in ahead
                                  for line in live if line not in (one, other))]
            told = seen(page)
            self.assertEqual(told, Page({line: page.lines()[line] for line in live}, orders, []))
            if ring(page) is None:
                self.assertEqual(rows_of(told), rows_of(page))
                self.assertEqual(reading(told), reading(page))

    def test_no_page_of_the_same_rows_has_fewer_orders(self):
        lines = {A0: "", A1: "", B0: ""}
        pairs = list(permutations(lines, 2))
        pages = [Page(lines, [pair for pair, kept in zip(pairs, told) if kept], [])
                 for told in product([False, True], repeat=len(pairs))]
        pages = [page for page in pages if ring(page) is None]
        for page in pages:
            fewest = min(len(other.orders()) for other in pages if rows_of(other) == rows_of(page))
            self.assertEqual(len(seen(page).orders()), fewest)
            self.assertTrue(all(is_ahead(page, one, other) for one, other in seen(page).orders()))


if __name__ == "__main__":
    unittest.main()
