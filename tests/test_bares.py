"""Point 44, and put_together of point 49: bare pages."""

import unittest

from patchlots.bares import Bare, bare_of, put_together
from patchlots.errors import BadArrow, BadClasses, BadDead, BadTold
from patchlots.pages import Page
from tests.helping import JUNK, as_lists, caught, exact, random_bare, random_page, seeds, walks

BARE = Bare(["x", "", "x", "y"], [(0, 1), (1, 3), (2, 2)], [3])


def told(bare):
    return [bare.told_words(), bare.arrows(), bare.dead_points(), bare.aheads(), len(bare)]


class Bares(unittest.TestCase):
    def test_told(self):
        self.assertTrue(exact(told(BARE), [["x", "", "x", "y"], [(0, 1), (1, 3), (2, 2)], [3],
                                           [(0, 1), (0, 3), (1, 3), (2, 2)], 4]))
        other = Bare(dead=(3, 3), arrows=([2, 2], [1, 3], [0, 1], (2, 2)), told=("x", "", "x", "y"))
        self.assertTrue(exact(told(other), told(BARE)))
        self.assertEqual(other, BARE)
        self.assertTrue(exact(told(Bare([], (), [])), [[], [], [], [], 0]))
        self.assertTrue(exact(told(Bare(["", ""], [(1, 0), (0, 1)], [1, 0])),
                              [["", ""], [(0, 1), (1, 0)], [0, 1], [(0, 0), (0, 1), (1, 0), (1, 1)], 2]))

    def test_aheads_by_definition(self):
        for rng in seeds(150):
            bare = random_bare(rng)
            wanted = [(one, other) for one in range(len(bare)) for other in sorted(walks(bare.arrows(), one))]
            self.assertTrue(exact(bare.aheads(), wanted))

    def test_bad_told(self):
        for thing in (None, True, 3, ["x"], ("x",), "a\nb", "w" * 201, {}, BARE):
            self.assertEqual(caught(BadTold, Bare, ["x", "", thing, 3], 3, 3).index, 2)
        for thing in (None, True, 3, "", "xy", {}, {"x": 1}, BARE):
            self.assertEqual(caught(BadTold, Bare, thing, 3, 3).index, 0)

    def test_bad_arrow(self):
        for thing in JUNK + [(0, 2), (2, 0), (0, -1), (0, True), (False, 0), (0,), (0, 1, 1), "01", 0, (0, None), {0: 1},
                             ("0", "1"), [], ([0], [1])]:
            self.assertEqual(caught(BadArrow, Bare, ["x", "y"], [(0, 1), [1, 1], thing, 3], 3).index, 2)
        for thing in (None, True, 3, "", "xy", {}, {0: 1}, BARE, (0, 1)):
            self.assertEqual(caught(BadArrow, Bare, ["x", "y"], thing, 3).index, 0)
        self.assertEqual(caught(BadArrow, Bare, [], [(0, 0)], []).index, 0)

    def test_bad_dead(self):
        for thing in JUNK + [2, -1, True, False, "0", [0], None, (0,)]:
            self.assertEqual(caught(BadDead, Bare, ["x", "y"], [], [0, 1, 0, thing, "x"]).index, 3)
        for thing in (None, True, 0, "", "01", {}, {0: 1}, BARE):
            self.assertEqual(caught(BadDead, Bare, ["x", "y"], [], thing).index, 0)

    def test_equal_and_nothing_else(self):
        for other in (Bare(["x", "", "x", "z"], BARE.arrows(), [3]), Bare(BARE.told_words(), [(0, 1), (1, 3)], [3]),
                      Bare(BARE.told_words(), BARE.arrows(), []), Bare(["x", "", "x"], [(0, 1)], []),
                      Bare(BARE.told_words(), BARE.aheads(), [3])):
            self.assertIs(BARE == other, False)
            self.assertIs(BARE != other, True)
        for other in JUNK + [told(BARE), ["x", "", "x", "y"], 4]:
            self.assertIs(BARE == other, False)
        self.assertIs(Bare([], [], []) == Page({}, [], []), False)

    def test_later_changes_have_no_effect(self):
        words, arrows, dead = ["x", "y"], [[0, 1]], [1]
        bare = Bare(words, arrows, dead)
        words.append("z")
        arrows[0][0] = 1
        dead.clear()
        for item in told(bare)[:4]:
            item.clear()
        self.assertTrue(exact(told(bare), [["x", "y"], [(0, 1)], [1], [(0, 1)], 2]))


class BareOf(unittest.TestCase):
    def test_bare_of(self):
        page = Page({("b", 0): "y", ("a", 10): "x", ("a", 9): ""}, [(("b", 0), ("a", 9)), (("a", 9), ("a", 10))], [("b", 0)])
        self.assertEqual(bare_of(page), Bare(["", "x", "y"], [(2, 0), (0, 1)], [2]))
        self.assertEqual(bare_of(page=Page({}, [], [])), Bare([], [], []))

    def test_by_definition(self):
        for rng in seeds(100):
            page = random_page(rng)
            lines = sorted(page.lines())
            bare = bare_of(page)
            self.assertEqual(bare.told_words(), [page.lines()[line] for line in lines])
            self.assertEqual([(lines[one], lines[other]) for one, other in bare.arrows()], page.orders())
            self.assertEqual([lines[point] for point in bare.dead_points()], page.dead())


class PutTogether(unittest.TestCase):
    def test_put_together(self):
        self.assertEqual(put_together(BARE, [0, 1, 0, 2]), Bare(["x", "", "y"], [(0, 0), (0, 1), (1, 2)], [2]))
        self.assertEqual(put_together(classes=(0, 1, 2, 3), bare=BARE), BARE)
        self.assertEqual(put_together(Bare(["x", "x", "x"], [(0, 1), (1, 2)], [1]), [0, 1, 0]),
                         Bare(["x", "x"], [(0, 1), (1, 0)], [1]))
        self.assertEqual(put_together(Bare(["x", "x"], [(0, 1)], [1]), [0, 0]), Bare(["x"], [(0, 0)], [0]))
        self.assertEqual(put_together(Bare([], [], []), []), Bare([], [], []))
        self.assertEqual(put_together(Bare([], [], []), ()), Bare([], [], []))

    def test_bad_classes(self):
        bare = Bare(["x", "y", "x", "x"], [], [])
        for classes, index in (([0, 1, 0], 3), ([], 0), ([0], 1), ([1, 0, 0, 0], 0), ([0, 0, 0, 0], 1), ([0, 2, 0, 0], 1),
                               ([0, 1, 1, 0], 2), ([0, 1, 3, 2], 2), ([0, 1, 0, 0, 0], 4), ([0, 1, 0, 0, 2, None], 4),
                               ([0, 1, 0, None, 0], 3), ([0, True, 0, 0], 1), ([False, 1, 0, 0], 0), ([0, 1, -1, 0], 2),
                               ([0, 1, "0", 0], 2), ([0, 1, [0], 0], 2), ([0, 1, 0, 3], 3), ([0, 2], 1), ([0, 1, 2, 1], 3)):
            self.assertEqual(caught(BadClasses, put_together, bare, classes).index, index)
            self.assertEqual(caught(BadClasses, put_together, bare, tuple(classes)).index, index)
        for thing in JUNK:
            self.assertEqual(caught(BadClasses, put_together, bare, [0, 1, 0, thing]).index, 3)
        for thing in (None, True, 3, "", "0100", {}, {0: 0}, bare):
            self.assertEqual(caught(BadClasses, put_together, bare, thing).index, 0)
        self.assertEqual(caught(BadClasses, put_together, Bare([], [], []), [0]).index, 0)
        self.assertEqual(caught(BadClasses, put_together, Bare([], [], []), None).index, 0)

    def test_by_definition(self):
        good = 0
        for rng in seeds(300):
            bare = random_bare(rng)
            classes = []
            for _ in range(len(bare)):
                classes.append(rng.randint(0, max(classes, default=-1) + 1))
            words = bare.told_words()
            says = {}
            for number, word in zip(classes, words):
                says.setdefault(number, set()).add(word)
            if any(len(told_words) > 1 for told_words in says.values()):
                caught(BadClasses, put_together, bare, classes)
                continue
            good += 1
            made = put_together(bare, classes)
            self.assertEqual(made.told_words(), [min(says[number]) for number in sorted(says)])
            self.assertEqual(made.arrows(), sorted({(classes[a], classes[b]) for a, b in bare.arrows()}))
            self.assertEqual(made.dead_points(), sorted({classes[point] for point in bare.dead_points()}))
            self.assertEqual(put_together(bare, as_lists(tuple(classes))), made)
        self.assertGreater(good, 50)


if __name__ == "__main__":
    unittest.main()
