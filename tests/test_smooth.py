"""Point 58: smooth histories and stuck parts."""

import unittest
from itertools import combinations, permutations

from patchlots.histories import histories
from patchlots.lots import Lot
from patchlots.patches import Patch
from patchlots.smooth import is_stuck, smooth_history, stuck_parts
from tests.helping import (
    JUNK, A, B, C, D, as_tuples, exact, page_of_part, random_lot, random_short_lot, seeds, slow_parts,
    slow_reads,
)

GROUND = Patch("a", ["x", "y", "z"])
X, Y, Z = GROUND.own_lines()
B1, C1, D1 = Patch("b", [], [(X, Y)]), Patch("c", [], [(Y, Z)]), Patch("d", [], [(Z, X)])
STUCK = Lot([A, Patch("e", ["q"]), Patch("f", ["r"], [(("e", 0), ("f", 0))]), Patch("g", [])])


def slow_is_stuck(lot, parts, reads, thing):
    """By the definition: thing is a list of lists of names, each a part."""
    told = [tuple(sorted(names)) for names in thing]
    if len(set(told)) != len(told) or () not in told or tuple(lot.names()) in told:
        return False
    return all(tuple(more) in told for names in told for more in parts
               if set(names) < set(more) and len(more) == len(names) + 1 and more in reads)


class Smooth(unittest.TestCase):
    def test_smooth_history(self):
        self.assertTrue(exact(smooth_history(Lot([])), []))
        self.assertIsNone(stuck_parts(Lot([])))
        lot = Lot([A, B, C, D])
        self.assertTrue(exact(smooth_history(lot=lot), ["a", "b", "c", "d"]))
        self.assertIsNone(stuck_parts(lot=lot))
        self.assertIsNone(smooth_history(Lot([GROUND, B1, C1])))
        self.assertTrue(exact(stuck_parts(Lot([GROUND, B1, C1])), [[]]))
        # Not the first history: q has to be buried ahead of r.
        p = Patch("p", ["x"])
        z = Patch("z", [], [], [("p", 0)])
        b = Patch("b", ["y"])
        late = Patch("c", [], [(("p", 0), ("b", 0))])
        self.assertEqual(smooth_history(Lot([p, z, b, late])), ["p", "z", "b", "c"])
        self.assertEqual(smooth_history(Lot([p, b])), None)
        self.assertEqual(stuck_parts(Lot([p, b])), [[], ["b"], ["p"]])

    def test_stuck_parts(self):
        self.assertIsNone(smooth_history(STUCK))
        told = stuck_parts(STUCK)
        self.assertTrue(exact(told, [[], ["a"], ["e"], ["g"], ["a", "g"], ["e", "f"], ["e", "g"], ["e", "f", "g"]]))
        for thing in (told, as_tuples(told), told[::-1], [list(reversed(names)) for names in told]):
            self.assertIs(is_stuck(STUCK, thing), True)
            self.assertIs(is_stuck(thing=thing, lot=STUCK), True)
        self.assertIs(is_stuck(STUCK, told + [["a", "e"]]), True)
        self.assertIs(is_stuck(STUCK, told + [["a", "e", "f"], ["f", "e", "a", "g"]]), False)

    def test_is_stuck_of_any_object(self):
        told = stuck_parts(STUCK)
        for thing in JUNK + [told[1:], told[:-1], told + [[]], told + [["g", "e"]], told + [["f"]], told + [["h"]],
                             told + [["e", "e"]], told + [["a", "e", "f", "g"]], told + [None], told + [[["a"]]], told + ["a"],
                             told + [{"a": 1}], told + [[None]], told + [""], told + [0], {}, None, "", [], (), STUCK,
                             [[], ["a"]], dict.fromkeys(["a"])]:
            self.assertIs(is_stuck(STUCK, thing), False)
        for thing in JUNK + [[[]], [], None, [[], []]]:
            self.assertIs(is_stuck(Lot([]), thing), False)

    def test_by_definition_and_it_holds(self):
        smooth = stuck = 0
        for number, rng in enumerate(seeds(200)):
            lot = random_lot(rng, 5) if number % 3 == 0 else random_short_lot(rng, 4, 2)
            parts = slow_parts(lot)
            reads = [names for names in parts if slow_reads(page_of_part(lot, names))]
            reached, good = [], []
            for told in histories(lot):
                counts = [count for count in range(len(told) + 1) if sorted(told[:count]) in reads]
                far = next((count for count in range(len(told) + 2) if count not in counts), 0)
                reached += [sorted(told[:count]) for count in range(far)]
                if far > len(told):
                    good.append(told)
            self.assertTrue(exact(smooth_history(lot), good[0] if good else None))
            wanted = [names for names in parts if names in reached]
            self.assertTrue(exact(stuck_parts(lot), None if good else wanted))
            smooth += len(good) > 0
            if not good:
                stuck += len(wanted) > 2
                self.assertIs(is_stuck(lot, wanted), True)
                for count in (0, 1):
                    for lacking in combinations(wanted, len(wanted) - count):
                        thing = list(lacking) + [rng.choice(parts)]
                        self.assertIs(is_stuck(lot, thing), slow_is_stuck(lot, parts, reads, thing))
        self.assertGreater(min(smooth, stuck), 15)

    def test_each_stuck_parts_have_all_that_are_told(self):
        for rng in seeds(40):
            lot = random_short_lot(rng, 2, 2)
            parts = slow_parts(lot)
            told = stuck_parts(lot)
            if len(parts) > 7:
                continue
            found = [thing for count in range(len(parts) + 1) for thing in combinations(parts, count)
                     if is_stuck(lot, thing)]
            self.assertEqual(told is None, found == [])
            self.assertTrue(all(names in thing for thing in found for names in told))

    def test_new_each_time(self):
        stuck_parts(STUCK)[1].clear()
        smooth_history(Lot([A])).clear()
        self.assertEqual([stuck_parts(STUCK)[1], smooth_history(Lot([A]))], [["a"], ["a"]])

    def test_permuted_names(self):
        told = stuck_parts(STUCK)
        for row in permutations(["e", "f", "g"]):
            self.assertIs(is_stuck(STUCK, told[:-1] + [row]), True)


if __name__ == "__main__":
    unittest.main()
