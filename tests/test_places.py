"""Points 32 to 35: changes, passing, the cube, side by side."""

import unittest

from patchlots.errors import BadChange, BadWords, NoFit
from patchlots.places import is_change, made_by, passed, side_by_side, turned_back
from tests.helping import JUNK, as_lists, as_tuples, caught, exact, random_change, random_text, seeds

NO_CHANGES = JUNK + [
    [], (), "", (0, [], []), (0, ["a"]), (0, ["a"], [], []), (-1, ["a"], []), (True, ["a"], []), (False, [], ["a"]),
    ("0", ["a"], []), (None, ["a"], []), (0, "a", []), (0, [], "a"), (0, ["a\nb"], []), (0, [], ["w" * 201]),
    (0, [None], []), (0, ["a"], [3]), (0, {"a": 1}, []), (0, ["a"], None), ([0], ["a"], []), (0, [["a"]], []),
]


def slow_passed(one, two):
    """What point 33 says, word by word."""
    ahead = one[0] >= two[0] + len(two[1])
    behind = two[0] >= one[0] + len(one[2])
    bare = not one[2] and not two[2]
    if ahead and (one[0] > two[0] + len(two[1]) or bare):
        return (two, (one[0] + len(two[2]) - len(two[1]), one[1], one[2]))
    if behind and (two[0] > one[0] + len(one[2]) or bare):
        return ((two[0] - (len(one[2]) - len(one[1])), two[1], two[2]), one)
    return None


class Changes(unittest.TestCase):
    def test_is_change(self):
        for thing in ((0, ["a"], []), [3, [], ["a", ""]], (0, ("a",), ("a",)), (10 ** 17, [""], [""])):
            self.assertIs(is_change(thing), True)
            self.assertIs(is_change(thing=as_lists(thing)), True)
            self.assertIs(is_change(as_tuples(thing)), True)
        for thing in NO_CHANGES:
            self.assertIs(is_change(thing), False, thing)

    def test_made_by(self):
        text = ["a", "b", "c"]
        for change, told in (((0, ["a"], ["x", "y"]), ["x", "y", "b", "c"]), ((3, [], ["d"]), ["a", "b", "c", "d"]),
                             ((1, ["b", "c"], []), ["a"]), ((0, [], [""]), ["", "a", "b", "c"]),
                             ((1, ["b"], ["b"]), text), ((0, ["a", "b", "c"], []), [])):
            self.assertTrue(exact(made_by(text, change), told))
            self.assertTrue(exact(made_by(change=as_lists(change), text=tuple(text)), told))
        self.assertEqual(made_by([], (0, [], ["x"])), ["x"])
        self.assertEqual(text, ["a", "b", "c"])

    def test_no_fit(self):
        for change in ((0, ["b"], []), (2, ["c", "d"], []), (3, ["c"], []), (4, [], ["x"]), (4, ["x"], []),
                       [1, ["b", "b"], ["x"]], (0, ["a", "b", "c", "a"], []), (10 ** 17, [], ["x"]), (0, ("b",), ())):
            self.assertIs(caught(NoFit, made_by, ["a", "b", "c"], change).change, change)

    def test_bad_words_then_bad_change(self):
        for thing in (None, True, 3, ["a"], ("a",), "a\nb", "w" * 201, {}, {"a": 1}):
            self.assertEqual(caught(BadWords, made_by, ["a", "", thing, 3], None).index, 2)
        for thing in (None, True, 3, "", "abc", {}, {"a": 1}):
            self.assertEqual(caught(BadWords, made_by, thing, None).index, 0)
        for thing in NO_CHANGES:
            self.assertIs(caught(BadChange, made_by, ["a"], thing).thing, thing)
            self.assertIs(caught(BadChange, turned_back, thing).thing, thing)
            for call in (passed, side_by_side):
                self.assertIs(caught(BadChange, call, thing, None).thing, thing)
                self.assertIs(caught(BadChange, call, (0, ["a"], []), thing).thing, thing)

    def test_turned_back(self):
        self.assertTrue(exact(turned_back((2, ["a"], ["x", "y"])), (2, ["x", "y"], ["a"])))
        self.assertTrue(exact(turned_back(change=[2, (), ("x",)]), (2, ["x"], [])))
        for rng in seeds(100):
            text = random_text(rng, 6)
            change = random_change(rng, text)
            self.assertEqual(made_by(made_by(text, change), turned_back(change)), text)
            self.assertEqual(turned_back(turned_back(change)), change)

    def test_new_each_time(self):
        change = (0, ["a"], ["x"])
        for told in (turned_back(change), passed((4, ["a"], ["x"]), change)[0], side_by_side(change, (4, [], ["y"]))[1]):
            told[1].clear()
            told[2].append("z")
        self.assertEqual(change, (0, ["a"], ["x"]))


class Passing(unittest.TestCase):
    def test_the_example_of_42(self):
        one, two = (0, ["a"], ["x", "y"]), (3, ["c"], [])
        self.assertTrue(exact(passed(one, two), ((2, ["c"], []), (0, ["a"], ["x", "y"]))))
        self.assertTrue(exact(passed(two=as_lists(two), one=as_tuples(one)),
                              ((2, ["c"], []), (0, ["a"], ["x", "y"]))))
        self.assertIsNone(passed((1, [], ["p"]), (1, ["p"], [])))
        self.assertIsNone(passed((1, ["b"], []), (1, [], ["q"])))
        self.assertTrue(exact(passed((1, ["b"], []), (1, ["c"], [])), ((2, ["c"], []), (1, ["b"], []))))

    def test_neighbours(self):
        self.assertIsNone(passed((1, [], ["p"]), (1, [], ["q"])))
        self.assertIsNone(passed((1, [], ["p"]), (2, [], ["q"])))
        self.assertTrue(exact(passed((1, [], ["p"]), (3, [], ["q"])), ((2, [], ["q"]), (1, [], ["p"]))))
        self.assertTrue(exact(passed((1, [], ["p"]), (0, [], ["q"])), ((0, [], ["q"]), (2, [], ["p"]))))
        self.assertIsNone(passed((1, [], ["p"]), (0, ["a"], [])))
        self.assertTrue(exact(passed((2, ["c"], []), (1, ["b"], [])), ((1, ["b"], []), (1, ["c"], []))))
        self.assertIsNone(passed((2, ["c"], []), (1, ["b", "d"], [])))
        self.assertIsNone(passed((2, ["c"], ["c"]), (1, ["b"], [])))
        self.assertTrue(exact(passed((2, ["c"], ["c"]), (0, ["b"], [])), ((0, ["b"], []), (1, ["c"], ["c"]))))

    def test_by_definition_and_it_holds(self):
        apart = 0
        for rng in seeds(1500):
            text = random_text(rng, 7)
            one = random_change(rng, text)
            two = random_change(rng, made_by(text, one))
            told = passed(one, two)
            self.assertTrue(exact(told, slow_passed(one, two)))
            if told is not None:
                apart += 1
                self.assertEqual(made_by(made_by(text, told[0]), told[1]), made_by(made_by(text, one), two))
                self.assertTrue(exact(passed(*told), (one, two)))
        self.assertGreater(apart, 300)

    def test_the_cube(self):
        through = 0
        for rng in seeds(2500):
            text = random_text(rng, 9)
            told = []
            behind = text
            for _ in range(3):
                told.append(random_change(rng, behind))
                behind = made_by(behind, told[-1])
            ways = [turned_about(told, places) for places in ((0, 1, 0), (1, 0, 1))]
            self.assertTrue(exact(ways[0], ways[1]), told)
            through += ways[0] is not None
        self.assertGreater(through, 100)


def turned_about(changes, places):
    changes = list(changes)
    for place in places:
        pair = passed(changes[place], changes[place + 1])
        if pair is None:
            return None
        changes[place:place + 2] = pair
    return changes


class SideBySide(unittest.TestCase):
    def test_side_by_side(self):
        one, two = (0, ["a"], ["x", "y"]), (2, ["c"], [])
        self.assertTrue(exact(side_by_side(one, two), ((3, ["c"], []), (0, ["a"], ["x", "y"]))))
        self.assertTrue(exact(side_by_side(two=one, one=two), ((0, ["a"], ["x", "y"]), (3, ["c"], []))))
        for one, two in (((1, [], ["p"]), (1, [], ["q"])), ((1, [], ["p"]), (1, ["b"], [])),
                         ((1, [], ["p"]), (0, ["a"], [])), ((0, ["a", "b"], []), (1, ["b"], [])),
                         ((0, ["a", "b", "c"], []), (1, ["b"], [])), ((1, ["b"], []), (1, ["b"], [])),
                         ((0, ["a", "b"], []), (1, [], ["q"])), ((0, ["a"], ["x"]), (1, ["b"], []))):
            self.assertIsNone(side_by_side(one, two))
            self.assertIsNone(side_by_side(two, one))
        self.assertTrue(exact(side_by_side((0, ["a"], []), (1, ["b"], [])), ((0, ["b"], []), (0, ["a"], []))))
        self.assertTrue(exact(side_by_side((1, ["b"], []), (0, ["a"], [])), ((0, ["a"], []), (0, ["b"], []))))
        self.assertTrue(exact(side_by_side((0, [], ["p"]), (1, [], ["q"])), ((2, [], ["q"]), (0, [], ["p"]))))

    def test_by_definition_and_it_holds(self):
        apart = 0
        for rng in seeds(1500):
            text = random_text(rng, 7)
            one, two = random_change(rng, text), random_change(rng, text)
            ends = one[0] + len(one[1]), two[0] + len(two[1])
            shared = set(range(one[0], ends[0])) & set(range(two[0], ends[1]))
            between = two[0] > ends[0] or one[0] > ends[1]
            told = side_by_side(one, two)
            self.assertEqual(told is not None, between or (not one[2] and not two[2] and not shared))
            if told is not None:
                apart += 1
                self.assertEqual(made_by(made_by(text, one), told[0]), made_by(made_by(text, two), told[1]))
                self.assertTrue(exact(passed(one, told[0]), (two, told[1])))
                self.assertTrue(exact(side_by_side(two, one), told[::-1]))
        self.assertGreater(apart, 300)


if __name__ == "__main__":
    unittest.main()
