"""Points 43 and 59: calls within the limits come back with their answers."""

import unittest
from itertools import combinations
from math import comb

from patchlots.bares import Bare, bare_of
from patchlots.clashes import clashes, keeping_patch, knots, lost_lines, lost_ring, new_clashes
from patchlots.gluing import glued, is_glue, is_landing, shared, through
from patchlots.histories import how_many_parts
from patchlots.lots import Lot, page_of
from patchlots.maps import is_map, likeness, maps, parted_by
from patchlots.overtexts import clash_over, texts_over
from patchlots.pages import Page
from patchlots.patches import Patch
from patchlots.readable import (
    greatest_readable, least_ends, least_unreadable, odd_pairs, readable_parts,
)
from patchlots.reading import reading
from patchlots.smooth import is_stuck, smooth_history, stuck_parts
from patchlots.turning import greatest_straight, greatest_unordered, least_ordering, least_turning
from tests.helping import seeds, shuffled, text_of_words


def chain(count, loops=()):
    """A bare page of points one behind another, some of them ahead of themselves."""
    return Bare(["w"] * count, [(at, at + 1) for at in range(count - 1)] + [(at, at) for at in loops], [])


class BareLimits(unittest.TestCase):
    def test_maps_of_twelve_points(self):
        self.assertEqual(len(maps(chain(6), chain(12))), comb(12, 6))
        self.assertEqual(maps(chain(12), chain(12)), [tuple(range(12))])
        self.assertEqual(maps(chain(12), chain(11)), [])
        found = maps(chain(9), chain(12, [3]))
        self.assertEqual(found, sorted(set(found)))
        self.assertTrue(all(is_map(chain(9), chain(12, [3]), way) for way in found))
        words = [f"w{number // 2}" for number in range(12)]
        free = maps(Bare([f"w{number}" for number in range(6)] + ["w0"] * 4, [], []), Bare(words, [], []))
        self.assertEqual(len(free), 2 ** 10)

    def test_no_map_though_each_point_has_some(self):
        # Eight points twice round go to no four points once round; all else is free.
        square = [(0, 2), (0, 3), (1, 3), (1, 2)]
        twice = [(0, 4), (0, 6), (1, 5), (1, 7), (2, 6), (2, 5), (3, 7), (3, 4)]
        one = Bare(["p", "q", "r", "s"] + ["p"] * 8, square, [])
        other = Bare(["p", "p", "q", "q", "r", "r", "s", "s", "p", "p", "p", "p"], twice, [])
        self.assertEqual(maps(one, other), [])
        one = Bare(["w"] * 12, [(at, at + 1) for at in range(11)], [])
        other = Bare(["w"] * 12, [(at, 11) for at in range(11)] + [(0, at) for at in range(1, 11)], [])
        self.assertEqual(maps(one, other), [])

    def test_forty_arrows(self):
        pairs = list(combinations(range(12), 2))[:40]
        bare = Bare(["w"] * 12, pairs, [])
        ahead = bare.aheads()
        self.assertEqual(maps(chain(3), bare), [way for way in combinations(range(12), 3)
                                                if way[:2] in ahead and way[1:] in ahead])
        for rng in seeds(5):
            other, way = shuffled(rng, bare)
            self.assertIs(is_map(bare, other, way), True)
            self.assertLessEqual(likeness(bare, other), tuple(way))
            self.assertIsNone(parted_by(bare, other))

    def test_glues_of_twelve_points(self):
        words = [f"w{number}" for number in range(12)]
        text = text_of_words(words)
        span = [Bare([], [], []), text, text, [], []]
        page, mine, theirs = glued(span)
        self.assertEqual([len(page), mine, theirs], [24, tuple(range(12)), tuple(range(12, 24))])
        self.assertEqual(through(span, [text, range_list(12), range_list(12)]), tuple(range(12)) * 2)
        self.assertIs(is_glue(span, (page, mine, theirs)), True)
        self.assertIs(is_landing(span, [page, mine, mine]), True)
        self.assertEqual(likeness(page, page), tuple(range(24)))
        self.assertIsNone(likeness(page, glued([text, text, text, range_list(12), range_list(12)])[0]))
        wide = Bare(["w"] * 12, [], range_list(12))
        told = shared([Bare(["w"], [(0, 0)], [0]), wide, wide, [0] * 12, (0,) * 12])
        self.assertEqual([len(told[0]), told[1][:13], told[2][:13]], [144, (0,) * 12 + (1,), (*range(12), 0)])
        self.assertEqual(len(shared([told[0], told[0], wide, range_list(144), range_list(12)])[0]), 12)

    def test_two_hundred_texts_over_a_span(self):
        one = text_of_words(["c"] + [f"x{number}" for number in range(4)] + ["d"] * 3 + ["x"] * 3)
        other = text_of_words(["c"] + [f"y{number}" for number in range(4)] + ["d"] * 3)
        span = [text_of_words(["c", "d", "d", "d"]), one, other, [0, 5, 6, 7], [0, 5, 6, 7]]
        self.assertEqual(len(texts_over(span)), comb(8, 4))
        self.assertEqual(clash_over(span), (1, 1))
        span = [Bare([], [], []), text_of_words(["x"] * 10), text_of_words(["y"] * 2), [], []]
        self.assertEqual(len(texts_over(span)), comb(12, 2))
        text = text_of_words(["x"] * 12)
        self.assertEqual(texts_over([text, text, text, range_list(12), range_list(12)]), [(tuple(range(12)),) * 2])


def nine_patches():
    """A lot of nine patches, a hundred and twenty-nine parts and twenty lines that turns in many ways."""
    ground = Patch("g", [f"w{number}" for number in range(12)])
    lines = ground.own_lines()
    patches = [ground]
    for number in range(7):
        name = f"p{number}"
        one, other = lines[number], lines[(number + 1) % 7]
        patches.append(Patch(name, ["q"], [(one, other), (one, (name, 0)), ((name, 0), other)]))
    last = Patch("z", ["q"], [(lines[index], lines[index + 1]) for index in range(7, 11)], lines[:7],
                 [])
    return Lot(patches + [last])


class LotLimits(unittest.TestCase):
    def test_nine_patches(self):
        lot = nine_patches()
        self.assertEqual([len(lot), how_many_parts(lot), len(page_of(lot).lines())], [9, 257, 20])
        lines = lot.patch_of("g").own_lines()
        ring = ["g"] + [f"p{number}" for number in range(7)]
        self.assertEqual(least_turning(lot), [ring])
        self.assertEqual(len(greatest_straight(lot)), 7)
        self.assertEqual(least_ordering(lot, lines[0], lines[2]),
                         [["g", "p0", "p1"], ["g"] + [f"p{number}" for number in range(2, 7)]])
        self.assertEqual(len(greatest_unordered(lot, lines[0], lines[2])), 10)
        self.assertEqual(readable_parts(lot), [[]])
        self.assertEqual(greatest_readable(lot), [[]])
        self.assertEqual(least_unreadable(lot), [["g"]])
        self.assertEqual([odd_pairs(lot), smooth_history(lot), stuck_parts(lot)], [[], None, [[]]])
        self.assertIs(is_stuck(lot, [[]]), True)
        self.assertEqual(least_ends(lot, ["g"], ("apart", lines[0], lines[1])),
                         [["g", "p0"], ["g", "z"], ["g", *ring[2:]]])
        self.assertEqual(new_clashes(lot, Lot([lot.patch_of("g")])), [])

    def test_two_hundred_parts_that_all_read(self):
        ground = Patch("g", ["x"] * 2, [(("g", 0), ("g", 1))])
        middle = [Patch(f"b{number}", [], [(("g", 0), ("g", 1))]) for number in range(7)]
        last = Patch("z", ["x"], [(("g", 1), ("z", 0))])
        lot = Lot([ground, last] + middle)
        parts = readable_parts(lot)
        self.assertEqual(len(parts), 257)
        self.assertEqual(smooth_history(lot), lot.names()[7:8] + [f"b{number}" for number in range(7)] + ["z"])
        self.assertIsNone(stuck_parts(lot))
        self.assertIs(is_stuck(lot, parts), False)
        self.assertIs(is_stuck(lot, parts[:-1]), False)
        self.assertEqual([greatest_readable(lot), least_unreadable(lot)], [[lot.names()], []])

    def test_many_stuck_parts(self):
        alone = [Patch(f"b{number}", []) for number in range(7)]
        lot = Lot(alone + [Patch("x", ["x"]), Patch("y", ["y"])])
        told = stuck_parts(lot)
        self.assertEqual(len(told), 3 * 2 ** 7)
        self.assertIsNone(smooth_history(lot))
        self.assertIs(is_stuck(lot, told), True)
        self.assertIs(is_stuck(lot, told[:-1]), False)
        self.assertEqual(odd_pairs(lot), [("x", "y")])

    def test_lost_lines_of_twenty_patches_and_thirty_lines(self):
        patches = []
        lines = []
        for number in range(15):
            name = f"p{number}"
            own = [(name, 0), (name, 1)]
            patches.append(Patch(name, ["x", "y"], [(line, own[0]) for line in lines[-3::2]] + [tuple(own)]))
            lines += own
        for number in range(5):
            patches.append(Patch(f"q{number}", [], [(lines[4 * number + 8], lines[4 * number])]))
        lot = Lot(patches)
        page = page_of(lot)
        lost = lost_lines(lot)
        self.assertEqual([len(lot), len(page.lines())], [20, 30])
        self.assertEqual(sorted(line for told in knots(page) for line in told), lost)
        self.assertGreater(len(lost), 5)
        for line in page.lines():
            self.assertEqual(lost_ring(lot, line) is None, line not in lost)
        made = page_of(lot | Lot([lot.patch_of(name) for name in lot.names()] + [keeping_patch(lot, "keep")]))
        self.assertEqual(sorted(reading(made)), [line for line in page.lines() if line not in lost])

    def test_pages_of_thirty_lines(self):
        lines = [("l", number) for number in range(30)]
        page = Page({line: "" for line in lines}, [], [])
        self.assertEqual(len(clashes(page)), comb(30, 2))
        page = Page({line: "" for line in lines}, list(zip(lines, lines[1:] + lines[:1])), lines[1:])
        self.assertEqual([knots(page), clashes(page)], [[lines], [("knot", tuple(lines))]])
        self.assertEqual(len(bare_of(page).aheads()), 900)


def range_list(count):
    return list(range(count))


if __name__ == "__main__":
    unittest.main()
