"""Points 36 to 39: runs, leads, what they lead to, runs beside runs."""

import unittest
from itertools import combinations, permutations

from patchlots.errors import BadIndex, BadList, BadStep, BadWords
from patchlots.places import made_by, passed, side_by_side
from patchlots.runs import (
    all_leads, fewest_passes, led_to, passed_at, put_beside, stuck_pairs, text_behind,
)
from tests.helping import JUNK, as_lists, as_tuples, caught, exact, random_run, random_text, seeds

TEXT = ["a", "b", "c"]
RUN = [("p", (0, ["a"], ["x", "y"])), ("q", (3, ["c"], [])), ("r", (3, [], ["z"]))]
STUCK = [("p", (1, ["b"], [])), ("q", (1, [], ["q"]))]
CALLS = [
    lambda text, run: text_behind(text, run), lambda text, run: passed_at(text, run, 0),
    all_leads, stuck_pairs, lambda text, run: led_to(text, run, 3), lambda text, run: fewest_passes(text, run, 3),
    lambda text, run: put_beside(text, run, 3),
]


def names_of(run):
    return [name for name, _ in run]


def slow_runs(text, run):
    """All runs that come of one by passes."""
    found = [run]
    for told in found:
        for index in range(len(told) - 1):
            pair = passed(told[index][1], told[index + 1][1])
            if pair is not None:
                other = told[:index] + [(told[index + 1][0], pair[0]), (told[index][0], pair[1])] + told[index + 2:]
                if other not in found:
                    found.append(other)
    return found


class Runs(unittest.TestCase):
    def test_text_behind(self):
        self.assertTrue(exact(text_behind(TEXT, RUN), ["x", "y", "b", "z"]))
        self.assertTrue(exact(text_behind(run=as_tuples(RUN), text=tuple(TEXT)), ["x", "y", "b", "z"]))
        self.assertTrue(exact(text_behind(TEXT, as_lists(RUN)), ["x", "y", "b", "z"]))
        self.assertTrue(exact(text_behind(("a",), []), ["a"]))
        self.assertTrue(exact(text_behind([], ()), []))
        text_behind(TEXT, []).clear()
        self.assertEqual(TEXT, ["a", "b", "c"])

    def test_passed_at(self):
        self.assertTrue(exact(passed_at(TEXT, RUN, 0),
                              [("q", (2, ["c"], [])), ("p", (0, ["a"], ["x", "y"])), RUN[2]]))
        self.assertTrue(exact(passed_at(index=0, run=as_lists(RUN), text=tuple(TEXT)), passed_at(TEXT, RUN, 0)))
        self.assertIsNone(passed_at(TEXT, RUN, 1))
        self.assertIsNone(passed_at(TEXT, STUCK, 0))
        told = passed_at(TEXT, RUN, 0)
        told[2][1][2].append("w")
        self.assertEqual(RUN[2], ("r", (3, [], ["z"])))

    def test_bad_index(self):
        for thing in JUNK + [3, 2, -1, True, False, "0", [], [0], "", 10 ** 17]:
            self.assertIs(caught(BadIndex, passed_at, TEXT, RUN, thing).index, thing)
        self.assertEqual(caught(BadIndex, passed_at, TEXT, RUN[:1], 0).index, 0)
        self.assertEqual(caught(BadIndex, passed_at, TEXT, [], 0).index, 0)

    def test_bad_words_comes_first(self):
        for call in CALLS:
            for thing in (None, True, 3, ["a"], "a\nb", "w" * 201, {}):
                self.assertEqual(caught(BadWords, call, ["a", "", thing, 3], None).index, 2)
            for thing in (None, True, 3, "", "abc", {}, {"a": 1}):
                self.assertEqual(caught(BadWords, call, thing, None).index, 0)

    def test_bad_step(self):
        fitting = (0, ["x"], [])
        for call in CALLS:
            for thing in JUNK + [("p", fitting), ("P", fitting), ("", fitting), (None, fitting), ("s", None), ("s",), [],
                                 ("s", fitting, 3), ("s", (0, ["b"], [])), ("s", (0, [], [])), ("s", (5, [], ["w"])),
                                 ("s", (3, ["z", "z"], [])), "sx", {"s": fitting}, fitting, ("s", [fitting]),
                                 ("s", (False, ["x"], []))]:
                self.assertEqual(caught(BadStep, call, TEXT, RUN + [thing, 3]).index, 3)
            for thing in (None, True, 3, "", "abc", {}, {"p": fitting}):
                self.assertEqual(caught(BadStep, call, TEXT, thing).index, 0)
            self.assertEqual(caught(BadStep, call, ["b"], RUN).index, 0)
            self.assertEqual(caught(BadStep, call, [], [("s", (0, [], ["w"])), ("t", (0, [], ["w"])), ("s", None)]).index, 2)


class Leads(unittest.TestCase):
    def test_examples(self):
        self.assertTrue(exact(all_leads(TEXT, RUN), [list("pqr"), list("qpr"), list("qrp")]))
        self.assertTrue(exact(stuck_pairs(TEXT, RUN), [("q", "r")]))
        self.assertTrue(exact(all_leads(run=(), text=TEXT), [[]]))
        self.assertTrue(exact(stuck_pairs(run=(), text=TEXT), []))
        self.assertEqual(all_leads(TEXT, STUCK), [["p", "q"]])
        self.assertEqual(stuck_pairs(tuple(TEXT), as_tuples(STUCK)), [("p", "q")])
        run = [("s", (1, [], ["x"])), ("p", (1, ["x"], [])), ("q", (1, [], ["y"])), ("t", (1, ["y"], []))]
        self.assertEqual(all_leads(["a", "b"], run), [["s", "p", "q", "t"]])
        self.assertEqual(stuck_pairs(["a", "b"], run),
                         [("p", "q"), ("p", "t"), ("q", "t"), ("s", "p"), ("s", "q"), ("s", "t")])

    def test_by_definition_and_it_holds(self):
        for rng in seeds(250):
            text = random_text(rng, 10)
            run = random_run(rng, text, rng.sample("pqrst", rng.randint(0, 4)))
            runs = slow_runs(text, run)
            leads = sorted(names_of(told) for told in runs)
            names = sorted(names_of(run))
            stuck = [(one, other) for one in names for other in names
                     if one != other and all(told.index(one) < told.index(other) for told in leads)]
            self.assertTrue(exact(all_leads(text, run), leads))
            self.assertTrue(exact(stuck_pairs(text, run), stuck))
            free = [list(told) for told in permutations(names)
                    if all(told.index(one) < told.index(other) for one, other in stuck)]
            self.assertEqual(leads, free)
            self.assertEqual(len(set(map(tuple, leads))), len(runs))

    def test_eight_steps_six_of_them_stuck(self):
        text = list("abcdefghijklmnop")
        run = [("s", (0, ["a"], [])), ("t", (3, ["e"], [])), ("u", (6, ["i"], []))]
        run += [(name, (6, [], [name])) for name in "vwxyz"]
        leads = all_leads(text, run)
        self.assertEqual(len(leads), 8 * 7)
        self.assertEqual(stuck_pairs(text, run), [("u", word) for word in "vwxyz"]
                         + list(combinations("vwxyz", 2)))


class Led(unittest.TestCase):
    def test_led_to(self):
        self.assertTrue(exact(led_to(TEXT, RUN, ["q", "p", "r"]), passed_at(TEXT, RUN, 0)))
        self.assertTrue(exact(led_to(names=("q", "p", "r"), run=as_lists(RUN), text=tuple(TEXT)),
                              passed_at(TEXT, RUN, 0)))
        self.assertTrue(exact(led_to(TEXT, RUN, list("pqr")), RUN))
        self.assertTrue(exact(fewest_passes(TEXT, RUN, list("pqr")), []))
        self.assertTrue(exact(fewest_passes(names=tuple("qrp"), run=RUN, text=TEXT), [0, 1]))
        for call in (led_to, fewest_passes):
            self.assertIsNone(call(TEXT, RUN, list("rqp")))
            self.assertIsNone(call(TEXT, STUCK, list("qp")))
            self.assertEqual(call(TEXT, [], []), [])

    def test_bad_list(self):
        for call in (led_to, fewest_passes):
            for thing in JUNK + ["pqr", [], list("pq"), list("pqrs"), list("pqq"), list("pqrr"), ["p", "q", None],
                                 ["p", "q", ["r"]], {"p": 1, "q": 1, "r": 1}, [list("pqr")], ["p", "q", "R"]]:
                self.assertIs(caught(BadList, call, TEXT, RUN, thing).thing, thing)

    def test_by_definition_and_it_holds(self):
        for rng in seeds(250):
            text = random_text(rng, 10)
            run = random_run(rng, text, rng.sample("pqrst", rng.randint(0, 4)))
            runs = {tuple(names_of(told)): told for told in slow_runs(text, run)}
            for names in permutations(names_of(run)):
                told = led_to(text, run, list(names))
                self.assertTrue(exact(told, runs.get(names)))
                passes = fewest_passes(text, run, names)
                if told is None:
                    self.assertIsNone(passes)
                    continue
                turned = [pair for pair in combinations(names_of(run), 2)
                          if names.index(pair[0]) > names.index(pair[1])]
                self.assertEqual(len(passes), len(turned))
                self.assertTrue(exact(passes, fewest_passes(tuple(text), as_lists(run), list(names))))
                behind = run
                for index in passes:
                    behind = passed_at(text, behind, index)
                self.assertEqual(behind, told)
                self.assertEqual(text_behind(text, told), text_behind(text, run))

    def test_eight_steps_that_all_pass(self):
        text = list("abcdefghijklmnop")
        run = [(name, (place, [], [name])) for place, name in zip(range(0, 24, 3), "stuvwxyz")]
        told = led_to(text, run, list("zyxwvuts"))
        self.assertEqual([change[0] for _, change in told], list(range(14, -1, -2)))
        self.assertEqual(len(fewest_passes(text, run, list("zyxwvuts"))), 28)
        self.assertEqual(text_behind(text, told), text_behind(text, run))


class Beside(unittest.TestCase):
    def test_put_beside(self):
        other = [("u", (1, ["b"], ["m"])), ("v", (0, [], ["n"]))]
        run = [("p", (3, [], ["z"])), ("q", (3, ["z"], []))]
        self.assertTrue(exact(put_beside(TEXT, run, other), other))
        self.assertTrue(exact(put_beside(run=as_lists(other), other=as_tuples(run), text=tuple(TEXT)),
                              [("p", (4, [], ["z"])), ("q", (4, ["z"], []))]))
        self.assertIsNone(put_beside(TEXT, RUN, other))
        self.assertTrue(exact(put_beside(TEXT, RUN, []), []))
        self.assertTrue(exact(put_beside(TEXT, [], other), other))
        self.assertIsNone(put_beside(TEXT, [("p", (1, [], ["z"])), ("q", (1, ["z"], []))], other))

    def test_bad_step_of_other(self):
        for thing in JUNK + [("p", (0, [], ["w"])), ("q", (0, [], ["w"])), ("u", (0, ["n"], [])), ("s", (5, [], ["w"])),
                             ("s", None)]:
            self.assertEqual(caught(BadStep, put_beside, TEXT, RUN, [("u", (0, [], ["n"])), thing, 3]).index, 1)
        for thing in (None, True, 3, "", {}):
            self.assertEqual(caught(BadStep, put_beside, TEXT, RUN, thing).index, 0)
        self.assertEqual(caught(BadStep, put_beside, TEXT, RUN[:1] + [3], [3]).index, 1)

    def test_it_holds(self):
        through = 0
        for rng in seeds(400):
            text = random_text(rng, 12)
            names = rng.sample("pqrst", 4)
            count = rng.randint(0, 3)
            run, other = random_run(rng, text, names[:count]), random_run(rng, text, names[count:])
            further = put_beside(text, run, other)
            back = put_beside(text, other, run)
            self.assertEqual(further is None, back is None)
            if further is not None:
                through += 1
                self.assertTrue(exact(led_to(text, run + further, names_of(other + run)), other + back))
                self.assertEqual(text_behind(text, run + further), text_behind(text, other + back))
        self.assertGreater(through, 100)

    def test_each_beside_each(self):
        for rng in seeds(150):
            text = random_text(rng, 10)
            (_, first), (_, second) = run = random_run(rng, text, "pq")
            other = random_run(rng, text, "u")
            wanted = side_by_side(first, other[0][1])
            if wanted is not None:
                wanted = side_by_side(second, wanted[0])
            told = put_beside(text, run, other)
            self.assertTrue(exact(told, None if wanted is None else [("u", wanted[0])]))
            if told is not None:
                made_by(text_behind(text, run), told[0][1])


if __name__ == "__main__":
    unittest.main()
