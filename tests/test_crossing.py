"""Points 40 and 41: the lot of a run, and the run of a lot."""

import unittest
from itertools import permutations

from patchlots.crossing import lot_of_run, run_of_lot
from patchlots.errors import BadList, BadName, BadStep, BadWords
from patchlots.histories import is_history
from patchlots.lots import Lot, page_of
from patchlots.patches import Patch
from patchlots.places import made_by
from patchlots.reading import text_of
from patchlots.runs import all_leads, led_to, text_behind
from tests.helping import JUNK, as_lists, as_tuples, caught, exact, random_change, random_run, random_text, seeds

TEXT = ["a", "b", "c"]
RUN = [("p", (1, ["b"], ["x", "y"])), ("q", (2, ["y", "c"], [])), ("r", (0, [], ["z"]))]
GROUND = Patch("g", ["", "a", "b", "c", ""],
               [(("g", 0), ("g", 1)), (("g", 1), ("g", 2)), (("g", 2), ("g", 3)), (("g", 3), ("g", 4))])
P = Patch("p", ["x", "y"], [(("g", 1), ("p", 0)), (("p", 0), ("p", 1)), (("p", 1), ("g", 3))], [("g", 2)])
Q = Patch("q", [], [], [("p", 1), ("g", 3)])
R = Patch("r", ["z"], [(("g", 0), ("r", 0)), (("r", 0), ("g", 1))])
LOT = Lot([GROUND, P, Q, R])


class LotOfRun(unittest.TestCase):
    def test_by_hand(self):
        self.assertEqual(lot_of_run("g", TEXT, RUN), LOT)
        self.assertEqual(lot_of_run(run=as_lists(RUN), text=tuple(TEXT), ground="g"), LOT)
        self.assertEqual(lot_of_run("g", TEXT, as_tuples(RUN)), LOT)
        self.assertEqual(lot_of_run("g", TEXT, []), Lot([GROUND]))

    def test_empty_text(self):
        ground = Patch("g", ["", ""], [(("g", 0), ("g", 1))])
        self.assertEqual(lot_of_run("g", [], ()), Lot([ground]))
        patch = Patch("p", ["x"], [(("g", 0), ("p", 0)), (("p", 0), ("g", 1))])
        self.assertEqual(lot_of_run("g", [], [("p", (0, [], ["x"]))]), Lot([ground, patch]))
        other = Patch("q", ["y"], [(("g", 0), ("q", 0)), (("q", 0), ("g", 1))], [("p", 0)])
        run = [("p", (0, [], ["x"])), ("q", (0, ["x"], ["y"]))]
        self.assertEqual(lot_of_run("g", [], run), Lot([ground, patch, other]))

    def test_errors_in_their_order(self):
        for thing in JUNK + ["", "G", ["g"], 0, "p", "q", "r"]:
            self.assertIs(caught(BadName, lot_of_run, thing, TEXT, RUN).thing, thing)
            self.assertEqual(caught(BadWords, lot_of_run, thing, ["a", 3], None).index, 1)
            self.assertEqual(caught(BadStep, lot_of_run, thing, TEXT, RUN + [3]).index, 3)
        self.assertEqual(caught(BadWords, lot_of_run, "g", "abc", None).index, 0)
        self.assertEqual(caught(BadStep, lot_of_run, "g", TEXT, None).index, 0)

    def test_it_holds(self):
        for rng in seeds(250):
            text = random_text(rng, 8)
            run = random_run(rng, text, rng.sample("pqrst", rng.randint(0, 4)))
            lot = lot_of_run("g", text, run)
            self.assertEqual(text_of(page_of(lot)), [""] + text_behind(text, run) + [""])
            for names in all_leads(text, run):
                self.assertEqual(lot_of_run("g", text, led_to(text, run, names)), lot)

    def test_runs_that_take_nothing_put_have_one_lot_just_if_they_lead_to_one_another(self):
        compared = [0, 0]
        for rng in seeds(150):
            text = random_text(rng, 5)
            runs = [thrifty_run(rng, text, rng.sample("pqr", 3)) for _ in range(6)]
            for one in runs:
                leads = [led_to(text, one, names) for names in all_leads(text, one)]
                for other in leads[:3] + runs:
                    led = other in leads
                    compared[led] += 1
                    self.assertEqual(led, lot_of_run("g", text, one) == lot_of_run("g", text, other))
        self.assertGreater(min(compared), 100)

    def test_places_forget_dead_lines(self):
        text = ["a", "b"]
        run = [("s", (1, [], ["x"])), ("p", (1, ["x"], [])), ("q", (1, [], ["y"])), ("t", (1, ["y"], []))]
        other = [("q", (1, [], ["y"])), ("t", (1, ["y"], [])), ("s", (1, [], ["x"])), ("p", (1, ["x"], []))]
        self.assertEqual(lot_of_run("g", text, run), lot_of_run("g", text, other))
        self.assertEqual(all_leads(text, run), [["s", "p", "q", "t"]])


def thrifty_run(rng, text, names):
    """A run no step of which takes a word that a step put."""
    marked = [(word, True) for word in text]
    run = []
    for name in names:
        while True:
            place, old, new = random_change(rng, [word for word, _ in marked])
            if all(kept for _, kept in marked[place:place + len(old)]):
                break
        marked[place:place + len(old)] = [(word, False) for word in new]
        run.append((name, (place, old, new)))
    return run


class RunOfLot(unittest.TestCase):
    def test_by_hand(self):
        self.assertTrue(exact(run_of_lot("g", LOT, ["p", "q", "r"]), RUN))
        self.assertTrue(exact(run_of_lot(names=("p", "q", "r"), lot=LOT, ground="g"), RUN))
        self.assertTrue(exact(run_of_lot("g", LOT, ["r", "p", "q"]),
                              [("r", (0, [], ["z"])), ("p", (2, ["b"], ["x", "y"])), ("q", (3, ["y", "c"], []))]))
        self.assertIsNone(run_of_lot("g", LOT, ["q", "p", "r"]))
        self.assertTrue(exact(run_of_lot("g", Lot([GROUND]), []), []))

    def test_names_that_are_not_just_those_of_the_lot(self):
        for names in (["p", "q"], [], ["p", "q", "r", "s"], ["p", "q", "s"]):
            self.assertIsNone(run_of_lot("g", LOT, names))
        self.assertIsNone(run_of_lot("h", LOT, ["p", "q", "r"]))
        self.assertIsNone(run_of_lot("h", LOT, ["g", "p", "q", "r"]))
        self.assertIsNone(run_of_lot("p", LOT, ["g", "q", "r"]))
        self.assertIsNone(run_of_lot("g", Lot([]), []))

    def test_lots_of_no_run(self):
        lines = [("g", number) for number in range(5)]
        orders = GROUND.orders()
        for ground in (Patch("g", []), Patch("g", [""]), Patch("g", ["", ""]), Patch("g", ["", "a", "b", "c", ""]),
                       Patch("g", ["a", "b"], [(lines[0], lines[1])]), Patch("g", ["", "a", "b", "c", "d"], orders),
                       Patch("g", ["d", "a", "b", "c", ""], orders),
                       Patch("g", ["", "a", "b", "c", ""], orders + [(lines[0], lines[4])]),
                       Patch("g", ["", "a", "b", "c", ""], orders[1:])):
            self.assertIsNone(run_of_lot("g", Lot([ground]), []))
        for patch in (Patch("p", []), Patch("p", ["x"]), Patch("p", [], [], [lines[0]]), Patch("p", [], [], [lines[4]]),
                      Patch("p", [], [], [lines[1], lines[3]]), Patch("p", ["x"], [], [lines[1]]),
                      Patch("p", ["x"], [(lines[1], ("p", 0))]), Patch("p", ["x"], [(("p", 0), lines[1])]),
                      Patch("p", ["x"], [(lines[1], ("p", 0)), (("p", 0), lines[3])]),
                      Patch("p", ["x"], [(lines[4], ("p", 0)), (("p", 0), lines[0])]),
                      Patch("p", [], [(lines[0], lines[2])], [lines[1]]),
                      Patch("p", ["x"], [(lines[1], ("p", 0)), (("p", 0), lines[2]), (lines[0], ("p", 0))]),
                      Patch("p", ["x", "y"], [(lines[1], ("p", 0)), (("p", 1), lines[2])])):
            self.assertIsNone(run_of_lot("g", Lot([GROUND, patch]), ["p"]), patch.orders())
        undone = Patch("q", [], [], [], [("p", lines[1])])
        self.assertIsNone(run_of_lot("g", Lot([GROUND, Patch("p", [], [], [lines[1]]), undone]), ["p", "q"]))
        twice = Patch("q", [], [], [lines[1]])
        self.assertIsNone(run_of_lot("g", Lot([GROUND, Patch("p", [], [], [lines[1]]), twice]), ["p", "q"]))
        self.assertIsNotNone(run_of_lot("g", Lot([GROUND, Patch("p", [], [], [lines[1]])]), ["p"]))

    def test_errors_in_their_order(self):
        for thing in JUNK + ["", "G", ["g"], 0]:
            self.assertIs(caught(BadName, run_of_lot, thing, LOT, 3).thing, thing)
        for thing in JUNK + ["pqr", "", ["p", "p"], ["p", "q", "r", "g"], ["g"], ["p", None], ["p", "Q"], {"p": 1}, {},
                             [["p", "q", "r"]]]:
            if thing != [] and thing != ():
                self.assertIs(caught(BadList, run_of_lot, "g", LOT, thing).thing, thing)

    def test_back_and_forth(self):
        for rng in seeds(200):
            text = random_text(rng, 7)
            run = random_run(rng, text, rng.sample("pqrs", rng.randint(0, 4)))
            lot = lot_of_run("g", text, run)
            told = run_of_lot("g", lot, tuple(name for name, _ in run))
            self.assertTrue(exact(told, run))
            for names in permutations([name for name, _ in run]):
                found = run_of_lot("g", lot, list(names))
                if found is not None:
                    self.assertEqual([name for name, _ in found], list(names))
                    self.assertEqual(lot_of_run("g", text, found), lot)
                    self.assertIs(is_history(lot, ["g"] + list(names)), True)
                if list(names) in all_leads(text, run):
                    self.assertIsNotNone(found)

    def test_facts_for_runs_that_take_nothing_put(self):
        for rng in seeds(200):
            text = random_text(rng, 6)
            run = thrifty_run(rng, text, rng.sample("pqrs", rng.randint(0, 4)))
            lot = lot_of_run("g", text, run)
            found = [list(names) for names in permutations(sorted(name for name, _ in run))
                     if run_of_lot("g", lot, names) is not None]
            self.assertEqual(found, all_leads(text, run))

    def test_not_each_history_is_a_run(self):
        run = [("p", (1, ["b"], [])), ("q", (1, [], ["q"]))]
        lot = lot_of_run("g", TEXT, run)
        self.assertIs(is_history(lot, ["g", "q", "p"]), True)
        self.assertIsNone(run_of_lot("g", lot, ["q", "p"]))
        self.assertEqual(made_by(made_by(TEXT, run[0][1]), run[1][1]), ["a", "q", "c"])

    def test_none_just_if_no_run_has_the_lot(self):
        """Among all runs of two steps on a short text."""
        text = ["a", "a"]
        runs = []
        for one in every_change(text):
            for other in every_change(made_by(text, one)):
                runs.append([("p", one), ("q", other)])
        for run in runs:
            lot = lot_of_run("g", text, run)
            turned = [told for told in ([("q", one), ("p", other)] for (_, one), (_, other) in runs)
                      if lot_of_run("g", text, told) == lot]
            self.assertTrue(exact(run_of_lot("g", lot, ["q", "p"]), turned[0] if turned else None))
            self.assertLessEqual(len(turned), 1)


def every_change(text):
    return [(place, text[place:end], new) for place in range(len(text) + 1) for end in range(place, len(text) + 1)
            for new in ([], ["x"]) if end > place or new]


if __name__ == "__main__":
    unittest.main()
