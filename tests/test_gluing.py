"""Points 46 and 47: spans, landings, the glue; corners and what is shared."""

import unittest
from itertools import permutations, product

from patchlots.bares import Bare
from patchlots.errors import BadCorner, BadLanding, BadSpan
from patchlots.gluing import glued, is_glue, is_landing, shared, through
from patchlots.maps import is_map, likeness, maps
from patchlots.pages import Page
from tests.helping import (
    JUNK, as_lists, as_tuples, caught, exact, random_bare, seeds, shuffled, slow_maps, text_of_words,
)

EMPTY = Bare([], [], [])
COMMON = text_of_words(["a", "c"])
ONE = text_of_words(["a", "x", "c"])
OTHER = text_of_words(["a", "y", "c"])
SPAN = [COMMON, ONE, OTHER, (0, 2), (0, 2)]


def random_span(rng):
    """A span of small pages whose common page is now and then empty."""
    while True:
        common, one, other = random_bare(rng, 2), random_bare(rng, 3), random_bare(rng, 3)
        left, right = slow_maps(common, one), slow_maps(common, other)
        if left and right:
            return [common, one, other, rng.choice(left), rng.choice(right)]


def slow_classes(span):
    """The classes of the points of both, as sets of pairs (side, point), by putting sets together."""
    common, one, other, left, right = span
    sets = [{(0, point)} for point in range(len(one))] + [{(1, point)} for point in range(len(other))]
    for point in range(len(common)):
        both = [found for found in sets if (0, left[point]) in found or (1, right[point]) in found]
        sets = [found for found in sets if found not in both] + [set().union(*both)]
    return sorted(sets, key=min)


def agreeing(span, landing, thing):
    """All maps from the page of a landing by which it becomes another one, by trying all tuples."""
    page, mine, theirs = landing
    return [way for way in slow_maps(page, thing[0])
            if [way[point] for point in mine] == list(thing[1])
            and [way[point] for point in theirs] == list(thing[2])]


def random_landing(rng, span):
    """A landing of a span, or None."""
    common, one, other, left, right = span
    page = random_bare(rng, 4, "xxy")
    ways = [(mine, theirs) for mine in slow_maps(one, page) for theirs in slow_maps(other, page)
            if all(mine[left[point]] == theirs[right[point]] for point in range(len(common)))]
    if not ways:
        return None
    return [page, *rng.choice(ways)]


class Glue(unittest.TestCase):
    def test_the_example_of_50(self):
        page = Bare(["a", "x", "c", "y"], [(0, 1), (0, 2), (0, 3), (1, 2), (3, 2)], [])
        self.assertTrue(exact(glued(SPAN), (page, (0, 1, 2), (0, 3, 2))))
        self.assertTrue(exact(glued(span=as_tuples(SPAN)), glued(SPAN)))

    def test_empty_pages(self):
        self.assertTrue(exact(glued([EMPTY, EMPTY, EMPTY, [], ()]), (EMPTY, (), ())))
        told = glued([EMPTY, ONE, OTHER, [], []])
        self.assertEqual(told[1:], ((0, 1, 2), (3, 4, 5)))
        self.assertEqual(len(told[0]), 6)
        self.assertEqual(glued([EMPTY, EMPTY, OTHER, [], []])[1:], ((), (0, 1, 2)))

    def test_dead_points_and_loops(self):
        x, dead, loop = Bare(["x"], [], []), Bare(["x"], [], [0]), Bare(["x"], [(0, 0)], [])
        self.assertEqual(glued([x, x, dead, [0], [0]])[0], dead)
        self.assertEqual(glued([x, loop, dead, [0], [0]])[0], Bare(["x"], [(0, 0)], [0]))
        two = Bare(["x", "x"], [(0, 1)], [])
        self.assertTrue(exact(glued([x, two, two, [0], [1]]), (Bare(["x"] * 3, [(0, 1), (2, 0)], []), (0, 1), (2, 0))))
        self.assertEqual(glued([Bare(["x", "x"], [], []), x, two, [0, 0], [0, 1]])[0], loop)

    def test_unlike_points_go_together_through_several_common_ones(self):
        four = Bare(["x"] * 4, [], [])
        three = Bare(["x"] * 3, [], [])
        told = glued([four, three, three, [0, 1, 1, 2], [0, 0, 1, 2]])
        self.assertTrue(exact(told, (Bare(["x", "x"], [], []), (0, 0, 1), (0, 0, 1))))
        told = glued([Bare(["x"], [], []), three, three, [2], [1]])
        self.assertTrue(exact(told, (Bare(["x"] * 5, [], []), (0, 1, 2), (3, 2, 4))))

    def test_by_definition(self):
        for rng in seeds(200):
            span = random_span(rng)
            _, one, other, _, _ = span
            classes = slow_classes(span)
            number = {thing: at for at, found in enumerate(classes) for thing in found}
            page, mine, theirs = glued(as_lists(span) if rng.random() < 0.5 else as_tuples(span))
            self.assertEqual(mine, tuple(number[0, point] for point in range(len(one))))
            self.assertEqual(theirs, tuple(number[1, point] for point in range(len(other))))
            self.assertEqual(page.arrows(), sorted({(number[0, a], number[0, b]) for a, b in one.arrows()}
                                                   | {(number[1, a], number[1, b]) for a, b in other.arrows()}))
            self.assertEqual(page.dead_points(), sorted({number[0, point] for point in one.dead_points()}
                                                        | {number[1, point] for point in other.dead_points()}))
            says = one.told_words(), other.told_words()
            self.assertEqual(page.told_words(), [says[side][point] for side, point in map(min, classes)])
            self.assertIs(is_landing(span, glued(span)), True)
            self.assertIs(is_glue(span, glued(span)), True)

    def test_bad_span(self):
        calls = [lambda span: is_landing(span, None), glued, lambda span: through(span, None),
                 lambda span: is_glue(span, None)]
        for call in calls:
            for thing in JUNK + ["x", 3, (0, 3), {}, Page({}, [], [])]:
                if thing != EMPTY:
                    for index in (0, 1, 2):
                        span = SPAN[:index] + [thing] * (3 - index) + [None, None]
                        self.assertEqual(caught(BadSpan, call, span).index, index)
                self.assertEqual(caught(BadSpan, call, SPAN[:3] + [thing, thing]).index, 3)
                self.assertEqual(caught(BadSpan, call, SPAN[:4] + [thing]).index, 4)
            for thing in JUNK + [[], SPAN[:4], SPAN + [(0, 2)], "abcde", None, {0: 1, 1: 1, 2: 1, 3: 1, 4: 1}, COMMON]:
                self.assertEqual(caught(BadSpan, call, thing).index, 0)
            for left, right, index in (((0, 1), (0, 2), 3), ((2, 0), (0, 2), 3), ((0,), (0, 2), 3), ((0, 2), (0, 3), 4),
                                       ((0, 2), (True, 2), 4), ((0, 2), (2, 0), 4), ((0, 2, 1), None, 3)):
                self.assertEqual(caught(BadSpan, call, [COMMON, ONE, OTHER, left, right]).index, index)

    def test_later_changes_have_no_effect(self):
        span = [COMMON, ONE, OTHER, [0, 2], [0, 2]]
        told = glued(span)
        told[0].arrows().clear()
        span[3][0] = 1
        self.assertEqual(told, glued(SPAN))


class Landings(unittest.TestCase):
    def test_is_landing_of_any_object(self):
        line = text_of_words(["a", "x", "y", "c"])
        for thing in ([line, (0, 1, 3), (0, 2, 3)], (line, [0, 1, 3], [0, 2, 3])):
            self.assertIs(is_landing(SPAN, thing), True)
            self.assertIs(is_landing(thing=thing, span=as_tuples(SPAN)), True)
        for thing in JUNK + [[], [line], [line, (0, 1, 3)], [line, (0, 1, 3), (0, 2, 3), 4], [None, (0, 1, 3), (0, 2, 3)],
                             [line, (0, 1, 2), (0, 2, 3)], [line, (0, 1, 3), (0, 1, 3)], [line, None, (0, 2, 3)],
                             [line, (0, 1, 3), None], [line, (0, True, 3), (0, 2, 3)], [[line], (0, 1, 3), (0, 2, 3)],
                             [Page({}, [], []), (), ()], "abc", {0: line, 1: (0, 1, 3), 2: (0, 2, 3)}, line]:
            self.assertIs(is_landing(SPAN, thing), False)
            self.assertIs(is_glue(SPAN, thing), False)
            self.assertIs(caught(BadLanding, through, SPAN, thing).thing, thing)

    def test_maps_that_do_not_agree_are_no_landing(self):
        two = Bare(["a", "a"], [], [])
        point = Bare(["a"], [], [])
        self.assertIs(is_landing([point, point, point, [0], [0]], [two, [0], [1]]), False)
        self.assertIs(is_landing([EMPTY, point, point, [], []], [two, [0], [1]]), True)
        self.assertIs(is_landing([point, point, point, [0], [0]], [two, [1], [1]]), True)
        # A map of pages that is none of theirs: one live where the other has it dead.
        dead = Bare(["a"], [], [0])
        self.assertIs(is_landing([point, dead, point, [0], [0]], [two, [1], [1]]), False)

    def test_through(self):
        line = text_of_words(["a", "x", "y", "c"])
        self.assertTrue(exact(through(SPAN, [line, (0, 1, 3), [0, 2, 3]]), (0, 1, 3, 2)))
        self.assertTrue(exact(through(thing=glued(SPAN), span=SPAN), (0, 1, 2, 3)))
        self.assertTrue(exact(through([EMPTY, EMPTY, EMPTY, [], []], [line, [], []]), ()))

    def test_it_holds_that_just_one_map_agrees(self):
        found = 0
        for rng in seeds(500):
            span = random_span(rng)
            landing = random_landing(rng, span)
            if landing is None:
                continue
            found += 1
            way = through(span, landing)
            self.assertEqual(agreeing(span, glued(span), landing), [way])
            self.assertIs(is_map(glued(span)[0], landing[0], way), True)
            # It is a glue just if a map that agrees leads back, too, and there is no other one.
            back = agreeing(span, landing, glued(span))
            same = len(back) == 1 and len(agreeing(span, landing, landing)) == 1
            self.assertIs(is_glue(span, landing), same)
        self.assertGreater(found, 80)

    def test_glues_however_numbered(self):
        for rng in seeds(100):
            span = random_span(rng)
            page, mine, theirs = glued(span)
            other, way = shuffled(rng, page)
            thing = [Bare(other.told_words(), other.aheads(), other.dead_points()),
                     [way[point] for point in mine], tuple(way[point] for point in theirs)]
            self.assertIs(is_glue(span, thing), True)
            self.assertEqual(through(span, thing), tuple(way))
            self.assertIsNotNone(likeness(page, thing[0]))
            for one, end in product(range(len(page)), repeat=2):
                if (one, end) not in page.aheads():
                    more = Bare(page.told_words(), page.arrows() + [(one, end)], page.dead_points())
                    self.assertIs(is_glue(span, (more, mine, theirs)), False)
                    self.assertIs(is_landing(span, (more, mine, theirs)), True)
            for point in range(len(page)):
                if point not in page.dead_points():
                    more = Bare(page.told_words(), page.arrows(), page.dead_points() + [point])
                    self.assertIs(is_glue(span, (more, mine, theirs)), False)
                    self.assertIs(is_landing(span, (more, mine, theirs)), True)
            more = Bare(page.told_words() + ["x"], page.arrows(), page.dead_points())
            self.assertIs(is_glue(span, (more, mine, theirs)), False)

    def test_points_that_need_not_go_together(self):
        x, two = Bare(["x"], [], []), Bare(["x", "x"], [], [])
        span = [EMPTY, x, x, [], []]
        self.assertIs(is_glue(span, [two, [1], [0]]), True)
        self.assertIs(is_glue(span, [x, [0], [0]]), False)
        self.assertIs(is_glue(span, [two, [1], [1]]), False)

    def test_any_order_of_gluing_comes_to_alike_pages(self):
        for rng in seeds(60):
            common = random_bare(rng, 2)
            hands = []
            while len(hands) < 3:
                page = random_bare(rng, 3)
                ways = slow_maps(common, page)
                if ways:
                    hands.append((page, rng.choice(ways)))
            made = []
            for (one, left), (other, right), (third, more) in permutations(hands):
                page, mine, theirs = glued([common, one, other, left, right])
                self.assertEqual([mine[point] for point in left], [theirs[point] for point in right])
                made.append(glued([common, page, third, [mine[point] for point in left], more])[0])
            self.assertTrue(all(likeness(made[0], page) is not None for page in made))


class Shared(unittest.TestCase):
    def test_shared(self):
        page = text_of_words(["a", "x", "c"])
        one, other = text_of_words(["a", "x"]), text_of_words(["x", "c"])
        self.assertTrue(exact(shared([page, one, other, (0, 1), [1, 2]]), (Bare(["x"], [], []), (1,), (0,))))
        self.assertTrue(exact(shared(corner=(page, page, page, [0, 1, 2], [0, 1, 2])), (page, (0, 1, 2), (0, 1, 2))))
        self.assertTrue(exact(shared([EMPTY, EMPTY, EMPTY, [], []]), (EMPTY, (), ())))
        self.assertTrue(exact(shared([page, EMPTY, page, [], (0, 1, 2)]), (EMPTY, (), ())))
        loop = Bare(["x"], [(0, 0)], [0])
        two = Bare(["x", "x"], [(0, 1), (1, 0)], [0])
        told = shared([loop, two, loop, [0, 0], [0]])
        self.assertTrue(exact(told, (Bare(["x", "x"], [(0, 0), (0, 1), (1, 0), (1, 1)], [0]), (0, 1), (0, 0))))

    def test_bad_corner(self):
        corner = [ONE, COMMON, COMMON, (0, 2), [0, 2]]
        self.assertEqual(len(shared(corner)[0]), 2)
        for thing in JUNK + ["x", 3, (0, 3), {}]:
            if thing != EMPTY:
                for index in (0, 1, 2):
                    self.assertEqual(caught(BadCorner, shared, corner[:index] + [thing] * (5 - index)).index, index)
            self.assertEqual(caught(BadCorner, shared, corner[:3] + [thing, thing]).index, 3)
            self.assertEqual(caught(BadCorner, shared, corner[:4] + [thing]).index, 4)
        for thing in JUNK + [[], corner[:4], corner + [(0, 2)], "abcde", None, {0: 1, 1: 1, 2: 1, 3: 1, 4: 1}, ONE]:
            self.assertEqual(caught(BadCorner, shared, thing).index, 0)
        self.assertEqual(caught(BadCorner, shared, [COMMON, ONE, COMMON, (0, 1), None]).index, 3)
        self.assertEqual(caught(BadCorner, shared, [ONE, COMMON, COMMON, (0, 2), (0, True)]).index, 4)
        self.assertEqual(caught(BadCorner, shared, [ONE, COMMON, COMMON, (0, 1), (0, 2)]).index, 3)

    def test_by_definition_it_holds_and_fact(self):
        found = unlike = 0
        for rng in seeds(500):
            page, one, other = random_bare(rng, 3), random_bare(rng, 3), random_bare(rng, 3)
            mine, theirs = slow_maps(one, page), slow_maps(other, page)
            if not mine or not theirs:
                continue
            found += 1
            corner = [page, one, other, rng.choice(mine), rng.choice(theirs)]
            bare, left, right = shared(as_lists(corner))
            pairs = [(i, j) for i, j in product(range(len(one)), range(len(other))) if corner[3][i] == corner[4][j]]
            self.assertEqual(list(zip(left, right)), pairs)
            self.assertEqual(bare.arrows(), [
                (a, b) for a, b in product(range(len(pairs)), repeat=2)
                if (left[a], left[b]) in one.aheads() and (right[a], right[b]) in other.aheads()])
            self.assertEqual(bare.aheads(), bare.arrows())
            self.assertEqual(bare.told_words(), [one.told_words()[i] for i in left])
            self.assertEqual(bare.dead_points(), [at for at, (i, j) in enumerate(pairs)
                                                  if i in one.dead_points() and j in other.dead_points()])
            third = random_bare(rng, 2)
            for first in maps(third, one):
                for second in maps(third, other):
                    if [corner[3][i] for i in first] == [corner[4][j] for j in second]:
                        self.assertEqual(len([way for way in slow_maps(third, bare)
                                              if tuple(left[at] for at in way) == first
                                              and tuple(right[at] for at in way) == second]), 1)
            if len(set(corner[3])) == len(one) and len(set(corner[4])) == len(other):
                unlike += 1
                way = through([bare, one, other, left, right], [page, corner[3], corner[4]])
                self.assertEqual(len(set(way)), len(way))
        self.assertGreater(found, 80)
        self.assertGreater(unlike, 30)


if __name__ == "__main__":
    unittest.main()
