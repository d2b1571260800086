"""Points 9 to 12: ways, what is between, reading, why not, gone places."""

import unittest
from itertools import combinations, product

from patchlots.errors import NoLine
from patchlots.pages import Page
from patchlots.reading import between, gone, is_ahead, is_ring, reading, ring, text_of, unordered
from tests.helping import JUNK, as_lists, as_tuples, caught, exact, random_page, seeds, slow_aheads, slow_reads

A0, A1, B0, C0, D0 = ("a", 0), ("a", 1), ("b", 0), ("c", 0), ("d", 0)


def page_with(orders, dead=()):
    return Page({line: f"{line[0]}{line[1]}" for line in (A0, A1, B0, C0, D0)}, orders, dead)


class Ahead(unittest.TestCase):
    def test_ways_lead_through_live_and_dead_ones(self):
        page = page_with([(A0, B0), (B0, C0), (C0, A1)], [B0])
        self.assertIs(is_ahead(page, A0, A1), True)
        self.assertIs(is_ahead(page, A1, A0), False)
        self.assertIs(is_ahead(page, A0, A0), False)
        self.assertIs(is_ahead(page, ["a", 0], ["b", 0]), True)
        self.assertIs(is_ahead(other=B0, one=C0, page=page), False)
        self.assertTrue(exact(between(page, A0, A1), [B0, C0]))
        self.assertTrue(exact(between(other=["c", 0], one=["a", 0], page=page), [B0]))
        self.assertEqual(between(page, A1, A0), [])
        self.assertEqual(between(page, A0, B0), [])

    def test_a_line_ahead_of_itself(self):
        page = page_with([(A0, B0), (B0, A0), (B0, C0)])
        self.assertIs(is_ahead(page, A0, A0), True)
        self.assertIs(is_ahead(page, C0, C0), False)
        self.assertEqual(between(page, A0, C0), [A0, B0])
        self.assertEqual(between(page, A0, A0), [A0, B0])
        self.assertEqual(between(page, C0, C0), [])

    def test_by_definition(self):
        for rng in seeds(150):
            page = random_page(rng)
            ahead = slow_aheads(page)
            lines = sorted(page.lines())
            for one, other in product(lines, lines):
                self.assertIs(is_ahead(page, one, other), (one, other) in ahead)
                self.assertEqual(between(page, one, other),
                                 [line for line in lines if (one, line) in ahead and (line, other) in ahead])

    def test_no_line(self):
        page = Page({A0: "x", A1: "y"}, [], [])
        for call in (is_ahead, between):
            for thing in JUNK + [[], {}, "", 0, "a.0", B0, ["b", 0], ("a", True), ("a", False), ("a", 2)]:
                self.assertIs(caught(NoLine, call, page, thing, A0).line, thing)
                self.assertIs(caught(NoLine, call, page, A0, thing).line, thing)
                self.assertIs(caught(NoLine, call, page, thing, "b").line, thing)


class Reading(unittest.TestCase):
    def test_reads(self):
        page = page_with([(A1, D0), (D0, B0), (B0, A0)], [C0])
        self.assertTrue(exact(reading(page), [A1, D0, B0, A0]))
        self.assertTrue(exact(text_of(page), ["a1", "d0", "b0", "a0"]))
        self.assertIsNone(unordered(page))
        self.assertIsNone(ring(page))

    def test_reads_by_way_of_dead_ones(self):
        page = page_with([(A1, D0), (D0, B0), (B0, A0)], [C0, D0])
        self.assertEqual(reading(page), [A1, B0, A0])

    def test_empty_and_single(self):
        for page in (Page({}, [], []), page_with([], [A0, A1, B0, C0, D0])):
            self.assertTrue(exact([reading(page), text_of(page)], [[], []]))
            self.assertIsNone(unordered(page))
            self.assertIsNone(ring(page))
        page = Page({A0: ""}, [], [])
        self.assertEqual([reading(page), text_of(page)], [[A0], [""]])

    def test_a_dead_ring_does_no_harm(self):
        page = Page({A0: "x", B0: "", C0: ""}, [(B0, C0), (C0, B0), (A0, B0)], [B0, C0])
        self.assertEqual(reading(page), [A0])
        self.assertIsNone(ring(page))
        self.assertIs(is_ring(page, [B0, C0]), False)

    def test_a_live_line_ahead_of_itself_through_dead_ones(self):
        page = Page({A0: "x", B0: "", C0: ""}, [(A0, B0), (B0, C0), (C0, A0)], [B0, C0])
        self.assertIsNone(reading(page))
        self.assertIsNone(text_of(page))
        self.assertIsNone(unordered(page))
        self.assertEqual(sorted(ring(page)), [A0, B0, C0])

    def test_unordered_is_the_first_pair(self):
        page = page_with([(A0, A1), (C0, B0), (C0, A0)], [D0])
        self.assertTrue(exact(unordered(page), (A0, B0)))
        self.assertTrue(exact(unordered(page_with([(B0, C0), (C0, A1)], [A0, D0])), None))
        self.assertEqual(unordered(page_with([], [A0])), (A1, B0))

    def test_the_example_of_19(self):
        lines = {A0: "1", A1: "2", B0: "3", C0: "4"}
        orders = [(A0, A1), (A0, B0), (B0, A1), (A0, C0), (C0, A1)]
        self.assertTrue(exact(unordered(Page(lines, orders, [])), (("b", 0), ("c", 0))))
        self.assertEqual(reading(Page(lines, orders, [C0])), [A0, B0, A1])
        page = Page(lines, orders, [A0, A1])
        self.assertEqual(gone(page), [B0, C0])
        self.assertEqual(unordered(page), (B0, C0))

    def test_it_holds_and_by_definition(self):
        for rng in seeds(400):
            page = random_page(rng, rings=rng.random() < 0.5)
            ahead = slow_aheads(page)
            told = reading(page)
            words = page.lines()
            self.assertEqual(told is not None, slow_reads(page))
            self.assertEqual(told is not None, unordered(page) is None and ring(page) is None)
            if told is None:
                self.assertIsNone(text_of(page))
            else:
                self.assertEqual(sorted(told), page.live())
                self.assertTrue(all(pair in ahead for pair in zip(told, told[1:])))
                self.assertEqual(text_of(page), [words[line] for line in told])
            pairs = [(one, other) for one, other in combinations(page.live(), 2)
                     if (one, other) not in ahead and (other, one) not in ahead]
            self.assertEqual(unordered(page), pairs[0] if pairs else None)


class Rings(unittest.TestCase):
    def test_as_few_lines_as_can_be(self):
        page = page_with([(A0, A1), (A1, B0), (B0, A0), (B0, C0), (C0, B0), (C0, D0), (D0, C0)], [C0])
        self.assertEqual(sorted(ring(page)), [B0, C0])
        self.assertTrue(exact(ring(page), ring(page=Page(page.lines(), tuple(page.orders()), (C0,)))))
        self.assertIs(is_ring(page, ring(page)), True)

    def test_is_ring(self):
        page = page_with([(A0, A1), (A1, B0), (B0, A0), (B0, C0), (C0, B0), (C0, D0), (D0, C0)], [C0, D0])
        for thing in ([A0, A1, B0], (A1, B0, A0), [B0, C0], [["b", 0], ["a", 0], ("a", 1)], [C0, B0, C0, D0],
                      [A0, A1, B0, A0, A1, B0], [C0, B0, C0, B0], [B0, C0, D0, C0]):
            self.assertIs(is_ring(page, thing), True, thing)
            self.assertIs(is_ring(thing=as_lists(thing), page=page), True)
            self.assertIs(is_ring(page, as_tuples(thing)), True)
        for thing in ([C0, D0], [A0, B0, A1], [A0, A1], [A0], [], (), [A0, A1, B0, A0], [B0, C0, ("c", 1)],
                      [B0, C0, None], "ab", None, 3, True, {B0: C0}, A0, [[A0, A1, B0]], [D0]):
            self.assertIs(is_ring(page, thing), False, thing)
        for thing in JUNK:
            self.assertIs(is_ring(page, thing), False, thing)
        self.assertIs(is_ring(page, [("b", False), C0]), False)

    def test_one_line_is_no_ring(self):
        page = page_with([(A0, A1), (A1, A0)])
        self.assertIs(is_ring(page, [A0]), False)
        self.assertEqual(sorted(ring(page)), [A0, A1])

    def test_by_definition(self):
        for rng in seeds(200):
            page = random_page(rng, 5)
            lines = list(page.lines())
            live = page.live()
            orders = page.orders()
            shortest = None
            for count in (1, 2, 3, 4, 5):
                for told in product(lines, repeat=count):
                    right = any(line in live for line in told) and all(
                        (told[at - 1], told[at]) in orders for at in range(count))
                    if count < 4:
                        self.assertIs(is_ring(page, list(told)), right)
                    if right and shortest is None:
                        shortest = count
                if shortest is not None:
                    break
            found = ring(page)
            self.assertEqual(None if found is None else len(found), shortest)
            if found is not None:
                self.assertIs(is_ring(page, found), True)
                self.assertTrue(exact(found, [(name, number) for name, number in found]))
                same = Page(dict(list(page.lines().items())[::-1]), as_tuples(orders[::-1]), as_lists(page.dead()[::-1]))
                self.assertTrue(exact(ring(page=same), found))


class Gone(unittest.TestCase):
    def test_gone(self):
        page = page_with([(A0, A1), (A1, B0), (A0, C0)], [A1])
        self.assertTrue(exact(gone(page), [B0]))
        self.assertEqual(gone(page_with([(A0, A1), (B0, A1), (C0, A0)], [A0, A1])), [B0, C0])
        self.assertEqual(gone(page_with([], [A0])), [])
        self.assertEqual(gone(Page({}, [], [])), [])
        self.assertEqual(gone(page=page_with([(A0, B0), (B0, C0)], [A0, C0])), [B0])

    def test_a_page_can_read_though_places_are_gone(self):
        page = Page({A0: "x", A1: "y", B0: "z"}, [(A0, A1), (A1, B0)], [A1])
        self.assertEqual(gone(page), [A0, B0])
        self.assertEqual(reading(page), [A0, B0])

    def test_by_definition(self):
        for rng in seeds(150):
            page = random_page(rng)
            found = []
            for line in page.live():
                told = [order for order in page.orders() if line in order]
                if told and all(set(order) & set(page.dead()) for order in told):
                    found.append(line)
            self.assertEqual(gone(page), found)


if __name__ == "__main__":
    unittest.main()
