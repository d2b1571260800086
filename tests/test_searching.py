"""Points 97 to 99 and 101: possible suspects, trees of askings, what to ask next."""

import unittest
from itertools import combinations, product

from patchlots.errors import BadAnswers, BadAskings, BadLies, BadSuspects
from patchlots.searching import (
    ask_next, fewest_askings, is_search, never_parted, possible_ones, search,
)
from tests.helping import JUNK, as_lists, as_tuples, caught, exact, seeds

SUSPECTS = ["a", "b", "c"]
ASKINGS = [["a"], ["b", "x"], []]


def random_search(rng, most=5, asked=5):
    """Suspects, askings, some of which are of others, lies."""
    suspects = rng.sample(["a", "b", "c", "d", "e", "f1"], rng.randint(1, most))
    askings = [[name for name in suspects + ["y", "z"] if rng.random() < 0.45] for _ in range(rng.randint(1, asked))]
    for names in askings:
        rng.shuffle(names)
    return suspects, askings, rng.choice([0, 0, 1])


def slow_possible(suspects, askings, answers, lies):
    return [name for name in suspects
            if sum((name in askings[index]) != answer for index, answer in answers) <= lies]


def slow_height(suspects, askings, lies, wrong=None, known=None):
    """The least height, by the number of wrong answers of each suspect; None if there is none.

    An asking that lets one answer change nothing is left out: it puts off what has to be asked.
    """
    wrong = wrong or {name: 0 for name in suspects}
    known = {} if known is None else known
    left = [name for name in suspects if wrong[name] <= lies]
    key = tuple(wrong[name] for name in left), tuple(left)
    if len(left) <= 1:
        return 0
    if key not in known:
        best = None
        for names in askings:
            heights = []
            for answer in (True, False):
                further = {name: wrong[name] + ((name in names) != answer) for name in left}
                if further == {name: wrong[name] for name in left}:
                    heights.append(None)
                else:
                    heights.append(slow_height(left, askings, lies, further, known))
            if None not in heights and (best is None or max(heights) + 1 < best):
                best = max(heights) + 1
        known[key] = best
    return known[key]


def slow_is_search(suspects, askings, tree, lies, answers=()):
    left = slow_possible(suspects, askings, answers, lies)
    if isinstance(tree, tuple):
        return all(slow_is_search(suspects, askings, tree[2 - answer], lies, answers + ((tree[0], answer),))
                   for answer in (True, False))
    return left == ([] if tree is None else [tree])


def height(tree):
    return 1 + max(height(tree[1]), height(tree[2])) if isinstance(tree, tuple) else 0


def random_tree_of_askings(rng, suspects, askings, lies, answers=()):
    """A tree of askings that asks more than it needs."""
    left = slow_possible(suspects, askings, answers, lies)
    if len(left) <= 1 and rng.random() < 0.8 or len(answers) > 7:
        return left[0] if left else None
    index = rng.randrange(len(askings))
    return (index, *[random_tree_of_askings(rng, suspects, askings, lies, answers + ((index, answer),))
                     for answer in (True, False)])


class Errors(unittest.TestCase):
    def calls(self):
        return [lambda s, a, lies: possible_ones(s, a, None, lies), lambda s, a, lies: is_search(s, a, None, lies),
                fewest_askings, search, lambda s, a, lies: ask_next(s, a, None, lies)]

    def test_bad_suspects(self):
        for call in self.calls() + [lambda s, a, lies: never_parted(s, a)]:
            for thing in (None, True, 3, "", "abc", {}, {"a": 1}, [], ()):
                self.assertEqual(caught(BadSuspects, call, thing, None, None).index, 0)
            for thing in JUNK + [3, "", "a", "b", ["c"]]:
                self.assertEqual(caught(BadSuspects, call, ["a", "b", thing, None], None, None).index, 2)

    def test_bad_askings(self):
        for call in self.calls() + [lambda s, a, lies: never_parted(s, a)]:
            for thing in (None, True, 3, "", "abc", {}, {"a": 1}, [], ()):
                self.assertEqual(caught(BadAskings, call, SUSPECTS, thing, None).index, 0)
            for thing in JUNK + [3, "", "a", "bc", ["a", "a"], ["a", "B"], ["a", None], [["a"]], {"a": 1}]:
                if thing != []:
                    self.assertEqual(caught(BadAskings, call, SUSPECTS, [["a"], [], thing, None], None).index, 2)

    def test_bad_lies(self):
        for call in self.calls():
            for thing in JUNK + [2, -1, "0", [0], (1,)]:
                self.assertIs(caught(BadLies, call, SUSPECTS, ASKINGS, thing).thing, thing)

    def test_bad_answers(self):
        for call in (possible_ones, ask_next):
            for lies in (0, 1):
                for thing in (None, True, 3, "", "ab", {}, {0: True}):
                    self.assertEqual(caught(BadAnswers, call, SUSPECTS, ASKINGS, thing, lies).index, 0)
                for thing in JUNK + [3, "", (0,), (0, True, 1), (3, True), (-1, True), (0, 1), (0, 0), (True, True), (False, False),
                                     ("a", True), (0, None), (0, "True"), [[0], True], {0: True, 1: False}]:
                    answers = [(0, False), [2, True], thing, None]
                    self.assertEqual(caught(BadAnswers, call, SUSPECTS, ASKINGS, answers, lies).index, 2, thing)


class Left(unittest.TestCase):
    def test_plain(self):
        self.assertTrue(exact(possible_ones(SUSPECTS, ASKINGS, []), SUSPECTS))
        self.assertTrue(exact(possible_ones(SUSPECTS, ASKINGS, [(0, True)]), ["a"]))
        self.assertTrue(exact(possible_ones(("c", "a", "b"), ASKINGS, ([0, False],)), ["c", "b"]))
        self.assertEqual(possible_ones(SUSPECTS, ASKINGS, [(2, True)]), [])
        self.assertEqual(possible_ones(SUSPECTS, ASKINGS, [(2, True)], 1), SUSPECTS)
        self.assertEqual(possible_ones(SUSPECTS, ASKINGS, [(2, True), (2, True)], lies=1), [])
        self.assertEqual(possible_ones(answers=[(0, True), (1, True)], lies=1, askings=ASKINGS, suspects=SUSPECTS), ["a", "b"])

    def test_never_parted(self):
        self.assertTrue(exact(never_parted(["c", "b", "a"], [["a"]]), ("c", "b")))
        self.assertTrue(exact(never_parted(askings=(("b", "c"), ()), suspects=["a", "b", "c"]), ("b", "c")))
        self.assertIsNone(never_parted(SUSPECTS, ASKINGS))
        self.assertIsNone(never_parted(["a"], [[]]))
        self.assertEqual(never_parted(["a", "b"], [["a", "b"], []]), ("a", "b"))
        self.assertEqual(never_parted(["d", "a", "c", "b"], [["d", "c"]]), ("d", "c"))

    def test_by_definition(self):
        for rng in seeds(200):
            suspects, askings, lies = random_search(rng)
            answers = [(rng.randrange(len(askings)), rng.random() < 0.5) for _ in range(rng.randint(0, 4))]
            wanted = slow_possible(suspects, askings, answers, lies)
            self.assertTrue(exact(possible_ones(suspects, askings, answers, lies), wanted))
            self.assertEqual(possible_ones(tuple(suspects), as_tuples(askings), as_lists(answers), lies), wanted)
            same = [pair for pair in combinations(suspects, 2) if all((pair[0] in names) == (pair[1] in names) for names in askings)]
            self.assertEqual(never_parted(suspects, askings), same[0] if same else None)


class Trees(unittest.TestCase):
    def test_one_suspect_alone(self):
        for lies in (0, 1):
            self.assertEqual([search(["a"], [[]], lies), fewest_askings(["a"], [[]], lies)], ["a", 0])
            self.assertIs(is_search(["a"], [[]], "a", lies), True)
            self.assertIs(is_search(["a"], [[]], None, lies), False)
        self.assertIs(is_search(["a"], [[]], (0, None, "a")), True)
        self.assertIs(is_search(["a"], [[]], (0, "a", "a")), False)
        self.assertIs(is_search(["a"], [[]], (0, "a", "a"), 1), True)
        self.assertIs(is_search(["a"], [[]], (0, (0, None, "a"), "a"), 1), True)
        self.assertIs(is_search(["a"], [[]], (0, (0, "a", "a"), "a"), 1), False)

    def test_askings_that_have_all_or_none(self):
        askings = [["a", "b"], [], ["y"]]
        for lies in (0, 1):
            self.assertEqual([search(["a", "b"], askings, lies), fewest_askings(["a", "b"], askings, lies)], [None, None])
            self.assertIsNone(ask_next(["a", "b"], askings, [], lies))
        self.assertEqual(search(["a", "b"], askings + [["b"]]), (3, "b", "a"))
        self.assertEqual(fewest_askings(["a", "b"], askings + [["b"]], 1), 3)

    def test_by_definition_and_it_holds(self):
        met = {}
        for rng in seeds(200):
            suspects, askings, lies = random_search(rng)
            fewest = fewest_askings(suspects, askings, lies)
            self.assertEqual(fewest, slow_height(suspects, askings, lies))
            tree = search(suspects, askings, lies)
            self.assertTrue(exact(tree, search(tuple(suspects), lies=lies, askings=as_tuples(askings))))
            self.assertEqual(fewest is None, tree is None)
            self.assertEqual(tree is None, never_parted(suspects, askings) is not None)
            if tree is not None:
                self.assertTrue(slow_is_search(suspects, askings, tree, lies))
                self.assertIs(is_search(suspects, askings, as_lists(tree), lies), True)
                self.assertEqual(height(tree), fewest)
                self.assertGreaterEqual(2 ** fewest, (1 + lies * fewest) * len(suspects))
            met[lies, fewest] = met.get((lies, fewest), 0) + 1
        self.assertGreater(min(met[key] for key in ((0, None), (0, 1), (0, 2), (0, 3), (1, None), (1, 3), (1, 5))), 3)

    def test_is_search_by_definition(self):
        right = wrong = 0
        for rng in seeds(150):
            suspects, askings, lies = random_search(rng, 3, 4)
            tree = random_tree_of_askings(rng, suspects, askings, lies)
            good = slow_is_search(suspects, askings, tree, lies)
            self.assertIs(is_search(thing=tree, lies=lies, suspects=suspects, askings=askings), good)
            self.assertIs(is_search(suspects, askings, as_lists(tree), lies), good)
            self.assertIs(is_search(suspects, askings, tree, 1 - lies), slow_is_search(suspects, askings, tree, 1 - lies))
            right += good
            wrong += not good
        self.assertGreater(min(right, wrong), 20)

    def test_any_objects(self):
        good = (0, "a", (1, "b", "c"))
        self.assertIs(is_search(SUSPECTS, ASKINGS, good), True)
        self.assertIs(is_search(SUSPECTS, ASKINGS, (2, None, good)), True)
        for thing in JUNK + [3, "", "d", "x", (), (0, "a"), (0, "a", "b", "c"), (3, "a", "b"), (-1, "a", "b"), (0, "b", "c")]:
            self.assertIs(is_search(SUSPECTS, ASKINGS, thing), False)
            self.assertIs(is_search(SUSPECTS, ASKINGS, (0, "a", (1, "b", thing))), False)
            self.assertIs(is_search(SUSPECTS, ASKINGS, (0, thing, (1, "b", "c"))), False)
            if thing is not None:
                self.assertIs(is_search(SUSPECTS, ASKINGS, (2, thing, good)), False)
        for thing in (False, "0", None, [0], (0,), 0.0, {0: 1}, ASKINGS):
            if not isinstance(thing, float):
                self.assertIs(is_search(SUSPECTS, ASKINGS, (thing, "a", (1, "b", "c"))), False)
                self.assertIs(is_search(SUSPECTS, ASKINGS, (0, "a", (thing, "b", "c"))), False)
        self.assertIs(is_search(["a", "b"], [["b"], ["b"]], (True, "b", "a")), False)

    def test_a_high_tree(self):
        tree = "a"
        for _ in range(5000):
            tree = [0, None, tree]
        self.assertIs(is_search(["a"], [[]], tree), True)
        self.assertIs(is_search(["a"], [[], ["a"]], tree), True)
        self.assertIs(is_search(["b"], [[]], tree), False)

    def test_facts_where_each_set_is_asked(self):
        for many in range(1, 7):
            suspects = list("abcdefg")[:many]
            least = [k for k in range(9) if 2 ** k >= many][0]
            askings = [list(names) for count in range(many + 1) for names in combinations(suspects, count)]
            self.assertEqual(fewest_askings(suspects, askings), least)
            self.assertEqual(fewest_askings(suspects, [suspects[:count] for count in range(many + 1)]), least)
            if many < 5:
                lying = fewest_askings(suspects, askings, 1)
                self.assertGreaterEqual(lying, [k for k in range(9) if 2 ** k >= (k + 1) * many][0])


class Next(unittest.TestCase):
    def test_plain(self):
        self.assertEqual(ask_next(SUSPECTS, ASKINGS, []), 0)
        self.assertEqual(ask_next(answers=[[0, False]], askings=ASKINGS, suspects=SUSPECTS), 1)
        self.assertIsNone(ask_next(SUSPECTS, ASKINGS, [(0, True)]))
        self.assertIsNone(ask_next(SUSPECTS, ASKINGS, [(2, True)]))
        self.assertIsNone(ask_next(["a", "b"], [["z"]], []))
        # No tree for all, but one goes on from here.
        self.assertIsNone(ask_next(["a", "b", "c", "d"], [["a"], ["a", "b"]], []))
        self.assertEqual(ask_next(["a", "b", "c", "d"], [["a"], ["a", "b"]], [(1, True)]), 0)
        self.assertEqual(ask_next(["a", "b", "c", "d"], [["a"], ["a", "b"]], [(1, True), (1, True)], lies=1), 0)

    def test_by_definition(self):
        met = {}
        for rng in seeds(200):
            suspects, askings, lies = random_search(rng)
            answers = [(rng.randrange(len(askings)), rng.random() < 0.5) for _ in range(rng.choice([0, 1, 2, 3]))]

            def height_behind(more):
                wrong = {name: sum((name in askings[index]) != answer for index, answer in answers + more) for name in suspects}
                left = {name: count for name, count in wrong.items() if count <= lies}
                return slow_height(list(left), askings, lies, left) if left else 0

            now = height_behind([])
            tried = [[height_behind([(index, answer)]) for answer in (True, False)] for index in range(len(askings))]
            worst = [max(heights) for heights in tried if None not in heights]
            wanted = None
            if now:
                wanted = [index for index, heights in enumerate(tried) if None not in heights and max(heights) == min(worst)][0]
            self.assertEqual(ask_next(suspects, askings, answers, lies), wanted)
            met[wanted] = met.get(wanted, 0) + 1
        self.assertGreater(min(met[key] for key in (None, 0, 1, 2)), 2)

    def test_who_asks_so_finds_in_time(self):
        for rng in seeds(80):
            suspects, askings, lies = random_search(rng)
            fewest = fewest_askings(suspects, askings, lies)
            if fewest is None:
                continue
            for one, liar in product(suspects, [None] + list(range(fewest)) * lies):
                answers = []
                index = ask_next(suspects, askings, answers, lies)
                while index is not None:
                    answers.append((index, (one in askings[index]) != (len(answers) == liar)))
                    index = ask_next(suspects, askings, answers, lies)
                self.assertEqual(possible_ones(suspects, askings, answers, lies), [one])
                self.assertLessEqual(len(answers), fewest)


if __name__ == "__main__":
    unittest.main()
