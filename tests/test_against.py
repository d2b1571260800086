"""Point 100: papers that so many askings are not enough."""

import unittest

from patchlots.against import answers_against, are_against
from patchlots.errors import BadAskings, BadLies, BadMany, BadSuspects
from patchlots.searching import fewest_askings, search
from tests.helping import JUNK, as_lists, as_tuples, caught, exact, seeds
from tests.test_searching import ASKINGS, SUSPECTS, random_search, slow_height, slow_possible


def slow_are_against(suspects, askings, many, paper, lies, answers=()):
    """Whether what has the form of a paper is one."""
    if many == 0:
        left = slow_possible(suspects, askings, answers, lies)
        return (isinstance(paper, tuple) and len(paper) == 2 and paper[0] in left and paper[1] in left and paper[0] != paper[1])
    return (isinstance(paper, list) and len(paper) == len(askings)
            and all(slow_are_against(suspects, askings, many - 1, further, lies, answers + ((index, answer),))
                    for index, (answer, further) in enumerate(paper)))


def random_paper(rng, suspects, askings, many):
    if many == 0:
        return tuple(rng.sample(suspects, 2))
    return [(rng.random() < 0.4, random_paper(rng, suspects, askings, many - 1)) for _ in askings]


class Errors(unittest.TestCase):
    def calls(self):
        return [answers_against, lambda suspects, askings, many, lies: are_against(suspects, askings, many, None, lies)]

    def test_which_comes_first(self):
        for call in self.calls():
            for thing in (None, True, 3, "abc", {}, []):
                self.assertEqual(caught(BadSuspects, call, thing, None, None, None).index, 0)
                self.assertEqual(caught(BadAskings, call, SUSPECTS, thing, None, None).index, 0)
            self.assertEqual(caught(BadSuspects, call, ["a", "a"], None, None, None).index, 1)
            self.assertEqual(caught(BadAskings, call, SUSPECTS, [[], ["a", "a"]], None, None).index, 1)
            for thing in JUNK + [2, -1, "0"]:
                self.assertIs(caught(BadLies, call, SUSPECTS, ASKINGS, None, thing).thing, thing)

    def test_bad_many(self):
        for call in self.calls():
            for thing in JUNK + [-1, -5, "0", "", [0], (1,)]:
                if thing != 10 ** 17:
                    for lies in (0, 1):
                        self.assertIs(caught(BadMany, call, SUSPECTS, ASKINGS, thing, lies).thing, thing)


class Against(unittest.TestCase):
    def test_plain(self):
        self.assertTrue(exact(answers_against(["a", "b"], [["a"]], 0), ("a", "b")))
        self.assertIsNone(answers_against(["a", "b"], [["a"]], 1))
        self.assertIsNone(answers_against(["a", "b"], [["a"]], 10 ** 17))
        self.assertIsNone(answers_against(["a"], [[]], 0))
        paper = answers_against(["a", "b", "c"], [["a"], ["b", "c"], []], 1)
        self.assertTrue(exact(paper, [(False, ("b", "c")), (True, ("b", "c")), (False, ("a", "b"))]))
        paper = answers_against(lies=1, many=1, askings=[["a"]], suspects=("a", "b"))
        self.assertIn(paper, ([(True, ("a", "b"))], [(False, ("a", "b"))]))

    def test_just_one_of_both(self):
        met = {}
        for rng in seeds(150):
            suspects, askings, lies = random_search(rng, 5, 4)
            fewest = slow_height(suspects, askings, lies)
            for many in range(4):
                paper = answers_against(suspects, askings, many, lies)
                self.assertEqual(paper is None, fewest is not None and fewest <= many)
                self.assertTrue(exact(paper, answers_against(tuple(suspects), as_tuples(askings), many, lies)))
                if paper is not None:
                    self.assertTrue(slow_are_against(suspects, askings, many, paper, lies))
                    for thing in (paper, as_lists(paper), as_tuples(paper)):
                        self.assertIs(are_against(suspects, askings, many, thing, lies), True)
                    self.assertIs(are_against(suspects, askings, many + 1, paper, lies), False)
                    if many:
                        self.assertIs(are_against(suspects, askings, many - 1, paper, lies), False)
                met[many, paper is None] = met.get((many, paper is None), 0) + 1
            self.assertEqual(fewest_askings(suspects, askings, lies), fewest)
            self.assertEqual(search(suspects, askings, lies) is None, fewest is None)
        self.assertGreater(min(met[many, none] for many in range(1, 4) for none in (True, False)), 15)

    def test_are_against_by_definition(self):
        right = wrong = 0
        for rng in seeds(300):
            suspects, askings, lies = random_search(rng, 5, 3)
            if len(suspects) == 1:
                continue
            many = rng.choice([0, 1, 1, 2])
            paper = random_paper(rng, suspects, askings, many)
            good = slow_are_against(suspects, askings, many, paper, lies)
            self.assertIs(are_against(suspects, askings, many, paper, lies), good)
            self.assertIs(are_against(thing=as_lists(paper), lies=lies, askings=askings, suspects=suspects, many=many), good)
            right += good
            wrong += not good
        self.assertGreater(min(right, wrong), 40)

    def test_any_objects(self):
        suspects, askings = ["a", "b", "c"], [["a"], ["b"]]
        good = [(False, ("b", "c")), (False, ("c", "a"))]
        self.assertIs(are_against(suspects, askings, 1, good), True)
        self.assertIs(are_against(suspects, askings, 1, (good[0], ["a" == "b", ["a", "c"]])), True)
        self.assertIs(are_against(suspects, askings, 0, ("c", "b")), True)
        for thing in JUNK + [3, "ab", "abc", (), ("a",), ("a", "a"), ("a", "b", "c"), ("a", "x"), ("a", None), (["a"], "b"), ("b", ["a"])]:
            self.assertIs(are_against(suspects, askings, 0, thing), False)
            self.assertIs(are_against(suspects, askings, 1, [good[0], (False, thing)]), False)
            self.assertIs(are_against(suspects, askings, 1, [good[0], thing]), False)
            self.assertIs(are_against(suspects, askings, 1, thing), False)
            self.assertIs(are_against(suspects, askings, 10 ** 17, thing), False)
        for answer in (0, None, "False", [], True):
            self.assertIs(are_against(suspects, askings, 1, [good[0], (answer, good[1][1])]), False)
        for thing in (good[:1], good + good[:1], [good[0], (False, ("c", "b"))], [good[0], (*good[1], 1)], {0: good[0], 1: good[1]}, [good, good]):
            self.assertIs(are_against(suspects, askings, 1, thing), False)

    def test_new_each_time(self):
        answers_against(SUSPECTS, ASKINGS, 1).clear()
        self.assertEqual(len(answers_against(SUSPECTS, ASKINGS, 1)), 3)


if __name__ == "__main__":
    unittest.main()
