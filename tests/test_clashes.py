"""Points 51, 52 and 57: knots, clashes, new ones, lost lines."""

import unittest
from itertools import combinations, permutations, product

from patchlots.clashes import clashes, keeping_patch, knots, lost_lines, lost_ring, new_clashes
from patchlots.errors import BadName, NoLine, Parted, TakenName
from patchlots.lots import Lot, page_of
from patchlots.pages import Page
from patchlots.patches import Patch
from patchlots.reading import is_ahead, reading
from tests.helping import (
    JUNK, A, B, C, D, as_lists, caught, exact, page_of_part, random_lot, random_page, random_short_lot,
    seeds, slow_aheads, slow_parts, slow_reads,
)

L = [("l", number) for number in range(6)]
WORDS = {line: "" for line in L}


def ring_of(*lines):
    return [(lines[index - 1], line) for index, line in enumerate(lines)]


def slow_knots(page):
    ahead = slow_aheads(page)
    found = []
    for line in page.lines():
        around = [other for other in page.lines() if (line, other) in ahead and (other, line) in ahead]
        if around and around not in found:
            found.append(around)
    return found


def slow_clashes(page):
    ahead = slow_aheads(page)
    apart = [("apart", one, other) for one, other in combinations(page.live(), 2)
             if (one, other) not in ahead and (other, one) not in ahead]
    return apart + [("knot", tuple(lines)) for lines in slow_knots(page) if set(lines) & set(page.live())]


class Knots(unittest.TestCase):
    def test_knots(self):
        page = Page(WORDS, ring_of(L[5], L[2]) + ring_of(L[4], L[0], L[3]) + [(L[0], L[1]), (L[1], L[5])], [L[2], L[5]])
        self.assertTrue(exact(knots(page), [[L[0], L[3], L[4]], [L[2], L[5]]]))
        self.assertTrue(exact(knots(page=Page(WORDS, [(L[0], L[1])], [])), []))
        self.assertEqual(knots(Page({}, [], [])), [])
        two_rings = Page(WORDS, ring_of(L[0], L[1], L[2]) + ring_of(L[2], L[5]), L)
        self.assertEqual(knots(two_rings), [[L[0], L[1], L[2], L[5]]])

    def test_clashes(self):
        page = Page(WORDS, ring_of(L[5], L[2]) + ring_of(L[4], L[0], L[3]) + [(L[0], L[1]), (L[1], L[5])], [L[2], L[5]])
        self.assertTrue(exact(clashes(page), [("knot", (L[0], L[3], L[4]))]))
        page = Page(WORDS, ring_of(L[4], L[1]) + ring_of(L[5], L[0], L[3]) + [(L[1], L[2])], [L[0], L[3]])
        self.assertTrue(exact(clashes(page=page), [
            ("apart", L[1], L[5]), ("apart", L[2], L[5]), ("apart", L[4], L[5]), ("knot", (L[0], L[3], L[5])),
            ("knot", (L[1], L[4]))]))
        self.assertTrue(exact(clashes(Page({}, [], [])), []))
        self.assertTrue(exact(clashes(Page(WORDS, [], L[1:])), []))

    def test_by_definition_and_facts(self):
        turning = 0
        for rng in seeds(400):
            page = random_page(rng, 9)
            self.assertTrue(exact(knots(page), slow_knots(page)))
            self.assertTrue(exact(clashes(page), slow_clashes(page)))
            self.assertEqual(clashes(page) == [], slow_reads(page))
            self.assertEqual(clashes(page) == [], reading(page) is not None)
            turning += 0 < len(knots(page)) and len(knots(page)[0]) < len(page.lines())
            for line in page.lines():
                self.assertEqual(sum(line in lines for lines in knots(page)), is_ahead(page, line, line))
            more = Page({**page.lines(), ("z", 0): ""},
                        page.orders() + rng.sample(list(permutations([*page.lines(), ("z", 0)], 2)), min(2, len(page.lines()))),
                        page.dead())
            self.assertIs(page.is_within(more), True)
            for lines in knots(page):
                self.assertEqual(sum(set(lines) <= set(other) for other in knots(more)), 1)
        self.assertGreater(turning, 15)

    def test_new_each_time(self):
        page = Page(WORDS, ring_of(L[0], L[1]), [])
        knots(page)[0].clear()
        clashes(page).clear()
        self.assertEqual([knots(page), len(clashes(page))], [[[L[0], L[1]]], 15])


class NewClashes(unittest.TestCase):
    def test_new_clashes(self):
        ground = Patch("g", ["x", "y"])
        x, y = ground.own_lines()
        one, other = Patch("a", [], [(x, y)]), Patch("b", [], [(y, x)])
        self.assertTrue(exact(new_clashes(Lot([ground, one]), Lot([ground, other])), [("knot", (x, y))]))
        self.assertEqual(new_clashes(Lot([ground]), Lot([ground])), [])
        self.assertEqual(new_clashes(one=Lot([ground]), other=Lot([])), [])
        self.assertEqual(new_clashes(Lot([]), Lot([])), [])
        p, q = Patch("p", ["p"], [(x, ("p", 0))]), Patch("q", ["q"], [(x, ("q", 0))])
        told = new_clashes(Lot([ground, p]), Lot([ground, q]))
        self.assertTrue(exact(told, [("apart", ("p", 0), ("q", 0))]))
        # A line brought back by the one, buried by both.
        bury, back = Patch("c", [], [], [x]), Patch("d", [], [], [], [("c", x)])
        self.assertEqual(new_clashes(Lot([ground, bury]), Lot([ground, bury, back])), [])
        far = Patch("q", ["q"], [(y, ("q", 0))])
        self.assertEqual(new_clashes(Lot([ground, bury, far]), Lot([ground, bury, back])), [("apart", x, ("q", 0))])

    def test_parted(self):
        other = Lot([Patch("d", []), Patch("c", []), A])
        self.assertEqual(caught(Parted, new_clashes, Lot([A, B, C, D]), other).name, "c")
        self.assertEqual(caught(Parted, new_clashes, other, Lot([A, B, C, D])).name, "c")

    def test_by_definition_and_fact(self):
        some = 0
        for number, rng in enumerate(seeds(60)):
            lot = random_lot(rng, 5) if number % 4 == 0 else random_short_lot(rng, 4, 3, 0.8, 0.5)
            parts = slow_parts(lot)
            for names, others in rng.sample(list(product(parts, repeat=2)), min(30, len(parts) ** 2)):
                one, other = [Lot([lot.patch_of(name) for name in told]) for told in (names, others)]
                pages = page_of(one), page_of(other)
                old = slow_clashes(pages[0]) + slow_clashes(pages[1])
                wanted = [clash for clash in slow_clashes(page_of_part(lot, sorted({*names, *others})))
                          if clash not in old]
                told = new_clashes(one, other)
                self.assertTrue(exact(told, wanted))
                some += len(told) > 0
                for kind, *lines in told:
                    if kind == "apart":
                        self.assertTrue(all(set(lines) - set(page.live()) for page in pages))
        self.assertGreater(some, 20)


class LostLines(unittest.TestCase):
    def test_lost_lines(self):
        ground = Patch("g", ["x", "y", "z"])
        x, y, z = ground.own_lines()
        turning = [Patch("a", ["w"], [(x, y), (z, ("a", 0))]), Patch("b", [], [(y, x)], [x])]
        lot = Lot([ground] + turning)
        self.assertTrue(exact(lost_lines(lot), [x, y]))
        self.assertTrue(exact(lost_ring(lot, x), [x, y]))
        self.assertTrue(exact(lost_ring(line=["g", 1], lot=lot), [y, x]))
        self.assertIsNone(lost_ring(lot, z))
        patch = keeping_patch(lot=lot, name="k")
        self.assertEqual(patch, Patch("k", [], [], [y]))
        self.assertEqual(reading(page_of(lot | Lot([ground, *turning, patch]))), [z, ("a", 0)])
        self.assertEqual(lost_lines(lot=Lot([])), [])
        self.assertEqual(keeping_patch(Lot([]), "k"), Patch("k", []))
        self.assertEqual(keeping_patch(Lot([ground]), "k").burials(), [])
        self.assertEqual(len(keeping_patch(Lot([ground]), "k").orders()), 2)
        self.assertEqual(keeping_patch(Lot([A, B, C, D]), "k"), Patch("k", []))

    def test_errors(self):
        lot = Lot([A, B, C, D])
        for thing in JUNK + [("a", 2), ("c", 0), "a.0", "a", 0, ["a"], A]:
            self.assertIs(caught(NoLine, lost_ring, lot, thing).line, thing)
        for thing in JUNK + ["", "A", "a" * 13, 0, ["a"], ("a", 0), "e f"]:
            if thing != "a":
                self.assertIs(caught(BadName, keeping_patch, lot, thing).thing, thing)
        for name in "abcd":
            self.assertEqual(caught(TakenName, keeping_patch, lot, name).name, name)
        self.assertEqual(caught(NoLine, lost_ring, Lot([]), ("a", 0)).line, ("a", 0))

    def test_by_definition(self):
        lost = 0
        for number, rng in enumerate(seeds(300)):
            lot = random_lot(rng) if number % 2 else random_short_lot(rng, 6, 5, 0.6)
            page = page_of(lot)
            ahead = slow_aheads(page)
            self.assertTrue(exact(lost_lines(lot), [line for line in page.lines() if (line, line) in ahead]))
            lost += len(lost_lines(lot)) > 0
            for line in page.lines():
                ring = lost_ring(lot, as_lists(line) if number % 3 else line)
                self.assertEqual(ring is None, line not in lost_lines(lot))
                if ring is not None:
                    orders = page.orders()
                    self.assertEqual(ring[0], line)
                    self.assertTrue(all((ring[at - 1], ring[at]) in orders for at in range(len(ring))))
                    level, count = {line}, 0
                    while count == 0 or line not in level:
                        level, count = {b for a, b in orders if a in level}, count + 1
                    self.assertEqual(len(ring), count)
            patch = keeping_patch(lot, "keep")
            patches = [lot.patch_of(name) for name in lot.names()]
            self.assertEqual(patch, keeping_patch(Lot(tuple(patches[::-1])), name="keep"))
            kept = [line for line in page.live() if line not in lost_lines(lot)]
            made = page_of(Lot(patches + [patch]))
            self.assertEqual(sorted(reading(made)), kept)
            self.assertEqual(made.live(), kept)
            self.assertEqual([patch.texts(), patch.backs()], [[], []])
            self.assertEqual(patch.burials(), [line for line in page.live() if line in lost_lines(lot)])
            self.assertTrue(all((a, b) not in ahead and (b, a) not in ahead for a, b in patch.orders()))
            if slow_reads(page):
                self.assertEqual(patch, Patch("keep", []))
        self.assertGreater(lost, 100)

    def test_it_holds_of_lots_that_have_this_one_as_a_part(self):
        for rng in seeds(80):
            lot = random_short_lot(rng, 5, 4)
            for names in slow_parts(lot):
                lost = lost_lines(Lot([lot.patch_of(name) for name in names]))
                for more in slow_parts(lot):
                    if set(names) <= set(more):
                        page = page_of_part(lot, more)
                        if slow_reads(page):
                            self.assertEqual(set(lost) & set(page.live()), set())
            # With all that are not lost some lot reads: what is dead is brought back first.
            patches = [lot.patch_of(name) for name in lot.names()]
            backs = [(patch.called(), line) for patch in patches for line in patch.burials()]
            whole = Lot(patches + [Patch("undo", [], [], [], backs)])
            self.assertEqual(page_of(whole).dead(), [])
            made = page_of(Lot(patches + [whole.patch_of("undo"), keeping_patch(whole, "keep")]))
            self.assertEqual(sorted(reading(made)), [line for line in made.lines() if line not in lost_lines(lot)])


if __name__ == "__main__":
    unittest.main()
