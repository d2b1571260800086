"""Point 45, and parted_by of point 49: maps, likenesses, counts of maps."""

import unittest
from itertools import permutations, product

from patchlots.bares import Bare, put_together
from patchlots.maps import is_map, likeness, maps, parted_by
from patchlots.pages import Page
from tests.helping import (
    JUNK, as_lists, exact, random_bare, seeds, shuffled, slow_is_map, slow_maps, text_of_words,
)

EMPTY = Bare([], [], [])
ONE = Bare(["x", "y", "x"], [(0, 1), (1, 2)], [])
OTHER = Bare(["y", "x", "x", "x"], [(1, 0), (0, 2), (0, 3)], [0, 3])


def slow_classes(bare):
    """All lists of classes by which a page can be put together, in order."""
    told = bare.told_words()
    found = []
    for classes in product(range(len(told)), repeat=len(told)):
        met = []
        for number in classes:
            if number not in met:
                met.append(number)
        says = {(number, words) for number, words in zip(classes, told)}
        if met == sorted(met) == list(range(len(met))) and len(says) == len(met):
            found.append(classes)
    return found


def slow_parted(one, other):
    for index, bare in enumerate((one, other)):
        for classes in slow_classes(bare):
            made = put_together(bare, classes)
            counts = (len(slow_maps(made, one)), len(slow_maps(made, other)))
            if counts[0] != counts[1]:
                return (index, classes, counts)
    return None


def slow_likenesses(one, other):
    """All of them, in order, by trying all permutations."""
    if len(one) == len(other):
        for way in permutations(range(len(one))):
            if slow_is_map(one, other, way):
                if slow_is_map(other, one, [way.index(end) for end in range(len(way))]):
                    yield way


class Maps(unittest.TestCase):
    def test_maps(self):
        self.assertTrue(exact(maps(ONE, OTHER), [(1, 0, 2), (1, 0, 3)]))
        self.assertTrue(exact(maps(other=ONE, one=OTHER), []))
        self.assertTrue(exact(maps(EMPTY, ONE), [()]))
        self.assertTrue(exact(maps(EMPTY, EMPTY), [()]))
        self.assertTrue(exact(maps(ONE, EMPTY), []))
        self.assertTrue(exact(maps(Bare(["x"], [], []), OTHER), [(1,), (2,), (3,)]))
        self.assertTrue(exact(maps(Bare(["x"], [], [0]), OTHER), [(3,)]))
        self.assertTrue(exact(maps(Bare(["x", "x"], [], []), Bare(["x"], [], [])), [(0, 0)]))
        self.assertTrue(exact(maps(Bare(["x", "x"], [(0, 1)], []), Bare(["x"], [], [])), []))
        loop = Bare(["x"], [(0, 0)], [])
        self.assertTrue(exact(maps(Bare(["x", "x"], [(0, 1), (1, 0)], []), loop), [(0, 0)]))
        self.assertTrue(exact(maps(loop, Bare(["x", "x", "x"], [(0, 1), (1, 0), (1, 2)], [2])), [(0,), (1,)]))

    def test_ways_of_several_arrows_are_kept(self):
        chain = text_of_words(["x", "y", "z"])
        ends = Bare(["x", "z"], [(0, 1)], [])
        self.assertEqual(maps(ends, chain), [(0, 2)])
        self.assertEqual(maps(ends, Bare(["x", "y", "z"], [(0, 1), (1, 2)], [1])), [(0, 2)])
        self.assertEqual(maps(ends, Bare(["x", "y", "z"], [(0, 1), (2, 1)], [])), [])

    def test_is_map_of_any_object(self):
        for thing in ((1, 0, 2), [1, 0, 3]):
            self.assertIs(is_map(ONE, OTHER, thing), True)
            self.assertIs(is_map(thing=thing, other=OTHER, one=ONE), True)
        for thing in JUNK + [(), [], (1, 0), (1, 0, 2, 3), (1, 0, 1), (2, 0, 3), (1, 1, 2), (1, 0, 4), (1, 0, -1), "102",
                             (True, 0, 2), (1, False, 2), (1, None, 2), (1, [0], 2), {1: 0}, {1: 1, 0: 0, 2: 2}, ONE, 3,
                             (1, 0, "2"), ((1, 0, 2),)]:
            self.assertIs(is_map(ONE, OTHER, thing), False)
        self.assertIs(is_map(EMPTY, EMPTY, []), True)
        self.assertIs(is_map(EMPTY, ONE, ()), True)
        for thing in JUNK + ["", {}, None, 0]:
            self.assertIs(is_map(EMPTY, ONE, thing), False)
        self.assertIs(is_map(Bare(["x"], [], [0]), Bare(["x"], [], []), [0]), False)
        self.assertIs(is_map(Bare(["x"], [], []), Bare(["x"], [], [0]), [0]), True)

    def test_by_definition(self):
        good = 0
        for rng in seeds(1000):
            one, other = random_bare(rng, 4), random_bare(rng, 4, rng.choice(["x", "xxy"]))
            wanted = slow_maps(one, other)
            good += 0 < len(wanted) < len(other) ** len(one)
            self.assertTrue(exact(maps(one, other), wanted))
            for way in product(range(len(other)), repeat=len(one)):
                self.assertIs(is_map(one, other, list(way)), way in wanted)
        self.assertGreater(good, 60)

    def test_new_each_time(self):
        maps(ONE, OTHER).clear()
        self.assertEqual(len(maps(ONE, OTHER)), 2)


class Likeness(unittest.TestCase):
    def test_likeness(self):
        self.assertTrue(exact(likeness(ONE, ONE), (0, 1, 2)))
        self.assertTrue(exact(likeness(EMPTY, EMPTY), ()))
        self.assertIsNone(likeness(other=ONE, one=OTHER))
        self.assertIsNone(likeness(EMPTY, ONE))
        self.assertTrue(exact(likeness(Bare(["x", "x"], [(0, 1)], []), Bare(["x", "x"], [(1, 0)], [])), (1, 0)))
        # Other arrows, the same points ahead.
        self.assertEqual(likeness(Bare(["x"] * 3, [(0, 1), (1, 2)], []), text_of_words(["x"] * 3)), (0, 1, 2))
        self.assertIsNone(likeness(Bare(["x"], [], []), Bare(["x"], [], [0])))
        self.assertIsNone(likeness(Bare(["x"], [], [0]), Bare(["x"], [], [])))
        self.assertIsNone(likeness(Bare(["x"], [], []), Bare(["x"], [(0, 0)], [])))
        self.assertIsNone(likeness(Bare(["x"], [(0, 0)], []), Bare(["x"], [], [])))
        self.assertIsNone(likeness(Bare(["x"], [], []), Bare(["y"], [], [])))

    def test_by_definition(self):
        alike = several = 0
        for rng in seeds(400):
            one = random_bare(rng, 5, rng.choice(["x", "xxy"]))
            other = shuffled(rng, one)[0] if rng.random() < 0.6 else random_bare(rng, 5, "x")
            ways = list(slow_likenesses(one, other))
            alike += len(ways) > 0
            several += len(ways) > 1 and ways[0] != tuple(range(len(one)))
            self.assertTrue(exact(likeness(one, other), ways[0] if ways else None))
        self.assertGreater(alike, 150)
        self.assertGreater(several, 30)

    def test_the_first_one_where_points_of_fewer_choices_stand_later(self):
        for arrows, others, wanted in (
            ([(0, 4), (2, 5), (3, 5), (4, 0), (5, 2), (6, 0)], [(0, 2), (1, 0), (2, 0), (4, 6), (5, 6), (6, 5)],
             (0, 3, 5, 4, 2, 6, 1)),
            ([(1, 0), (2, 1), (2, 4), (3, 4), (3, 5), (5, 6)], [(0, 2), (0, 3), (2, 6), (4, 3), (4, 5), (5, 1)],
             (1, 5, 4, 0, 3, 2, 6)),
            ([(2, 0), (2, 3), (4, 1), (4, 6), (7, 5)], [(3, 2), (4, 5), (4, 6), (7, 0), (7, 1)],
             (0, 5, 7, 1, 4, 2, 6, 3)),
        ):
            one, other = [Bare(["x"] * len(wanted), told, []) for told in (arrows, others)]
            self.assertEqual(next(slow_likenesses(one, other)), wanted)
            self.assertTrue(exact(likeness(one, other), wanted))

    def test_alike_in_each_point_but_not_in_all(self):
        rings = [(at, 6 + at) for at in range(6)]
        one = Bare(["x"] * 12, rings + [(at, 6 + (at + 1) % 6) for at in range(6)], [])
        other = Bare(["x"] * 12, rings + [(at, 6 + at // 3 * 3 + (at + 1) % 3) for at in range(6)], [])
        self.assertIsNone(likeness(one, other))
        for rng in seeds(10):
            for bare in (one, other):
                turned, way = shuffled(rng, bare)
                found = likeness(bare, turned)
                self.assertTrue(slow_is_map(bare, turned, found))
                self.assertLessEqual(found, tuple(way))
                self.assertEqual(sorted(found), list(range(12)))


class PartedBy(unittest.TestCase):
    def test_parted_by(self):
        x, dead, loop = Bare(["x"], [], []), Bare(["x"], [], [0]), Bare(["x"], [(0, 0)], [])
        self.assertTrue(exact(parted_by(x, dead), (1, (0,), (0, 1))))
        self.assertTrue(exact(parted_by(dead, x), (0, (0,), (1, 0))))
        self.assertTrue(exact(parted_by(x, loop), (1, (0,), (0, 1))))
        self.assertTrue(exact(parted_by(other=x, one=loop), (0, (0,), (1, 0))))
        self.assertTrue(exact(parted_by(EMPTY, x), (1, (0,), (0, 1))))
        self.assertTrue(exact(parted_by(x, EMPTY), (0, (0,), (1, 0))))
        self.assertIsNone(parted_by(EMPTY, EMPTY))
        self.assertIsNone(parted_by(ONE, ONE))
        two, ordered = Bare(["x", "x"], [], []), Bare(["x", "x"], [(0, 1)], [])
        self.assertTrue(exact(parted_by(two, ordered), (1, (0, 1), (0, 1))))
        self.assertTrue(exact(parted_by(ordered, two), (0, (0, 1), (1, 0))))
        self.assertTrue(exact(parted_by(two, x), (0, (0, 0), (2, 1))))
        self.assertTrue(exact(parted_by(Bare(["x", "y"], [], []), Bare(["x", "y", "y"], [], [])), (0, (0, 1), (1, 2))))

    def test_by_definition_and_it_holds(self):
        met = set()
        for rng in seeds(250):
            one = random_bare(rng, 4, rng.choice(["x", "xxy"]))
            other = shuffled(rng, one)[0] if rng.random() < 0.4 else random_bare(rng, 4, rng.choice(["x", "xxy"]))
            told = parted_by(one, other)
            self.assertTrue(exact(told, slow_parted(one, other)))
            self.assertEqual(told is None, likeness(one, other) is not None)
            met.add(told if told is None else (told[0], told[1]))
        self.assertGreater(len(met), 8)

    def test_more_points_than_four(self):
        for rng in seeds(5):
            one = random_bare(rng, 6, "x")
            while len(one) < 6:
                one = random_bare(rng, 6, "x")
            other = Bare(one.told_words(), one.arrows()[1:], one.dead_points())
            told = parted_by(one, other)
            self.assertEqual(told is None, likeness(one, other) is not None)
            if told is not None:
                made = put_together((one, other)[told[0]], told[1])
                self.assertEqual(told[2], (len(maps(made, one)), len(maps(made, other))))
                self.assertNotEqual(told[2][0], told[2][1])

    def test_lists_as_tuples(self):
        self.assertIs(is_map(ONE, OTHER, as_lists((1, 0, 2))), True)
        self.assertIs(is_map(ONE, OTHER, Page({}, [], [])), False)


if __name__ == "__main__":
    unittest.main()
