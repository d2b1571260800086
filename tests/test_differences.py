"""Points 74 and 78: differences, cut texts, and patches to texts."""

import unittest
from itertools import product

from patchlots.commonrows import common_row
from patchlots.differences import cut_text, difference, is_difference, patch_to, turned_round
from patchlots.errors import BadDifference, BadName, NoText, NotRead, TakenName
from patchlots.lots import Lot, page_of
from patchlots.patches import Patch
from patchlots.reading import reading, text_of
from tests.helping import (
    JUNK, A, B, C, D, as_lists, as_tuples, caught, exact, random_lot, random_short_lot, random_text, seeds,
    slow_common_rows,
)
from tests.test_commonrows import BAD_TEXTS, BAD_WORDS

TEXT = list("abcab")


def weight(cuts):
    return sum(many + len(words) for _, many, words in cuts)


def slow_cut(text, cuts):
    """From the end on, so that places stay what they are."""
    made = list(text)
    for place, many, words in reversed(cuts):
        made[place:place + many] = words
    return made


def all_differences(text, words):
    """All differences of a short text whose cuts put some of these lists of words."""
    found = [[]]
    for cuts in found:
        start = cuts[-1][0] + cuts[-1][1] + 1 if cuts else 0
        for place in range(start, len(text) + 1):
            for many in range(len(text) - place + 1):
                found += [cuts + [(place, many, told)] for told in words if many or told]
    return found


class Differences(unittest.TestCase):
    def test_the_example_of_79(self):
        told = difference(TEXT, list("cabc"))
        self.assertIn(told, [[(0, 0, ["c"]), (3, 2, [])], [(0, 2, []), (5, 0, ["c"])]])
        self.assertTrue(exact(difference(other=tuple("cabc"), one=tuple(TEXT)), told))
        for cuts in ([(0, 0, ["c"]), (3, 2, [])], [(0, 2, []), (5, 0, ["c"])]):
            self.assertTrue(exact(cut_text(TEXT, cuts), list("cabc")))

    def test_difference(self):
        self.assertTrue(exact([difference([], []), difference(TEXT, TEXT)], [[], []]))
        self.assertTrue(exact(difference([], ["a", "b"]), [(0, 0, ["a", "b"])]))
        self.assertTrue(exact(difference(["a", "b"], []), [(0, 2, [])]))
        self.assertTrue(exact(difference(["a"], ["b"]), [(0, 1, ["b"])]))
        # Not any longest common row has the fewest cuts.
        self.assertIn(difference(list("xaya"), list("xa")), [[(2, 2, [])], [(1, 2, [])]])
        self.assertEqual(difference(list("abab"), list("ab"))[1:], [])
        self.assertEqual(len(difference(list("aab"), list("ab"))), 1)
        self.assertEqual(difference(list("ab"), list("aab"))[0][2], ["a"])

    def test_is_difference_of_any_object(self):
        for thing in ([], (), [(0, 2, [])], [(0, 0, ["x"])], [[0, 1, ("x",)], (2, 0, ["", "y"]), (4, 1, ())], [(5, 0, ["c"])],
                      [(0, 5, ["c"])], [(3, 2, [])]):
            self.assertIs(is_difference(TEXT, thing), True)
            self.assertIs(is_difference(thing=as_tuples(thing), text=tuple(TEXT)), True)
        for thing in JUNK + [[(0, 0, [])], [(0, 1, ["x"]), (1, 1, [])], [(2, 1, []), (0, 1, [])], [(0, 6, [])], [(6, 0, ["x"])],
                             [(5, 1, [])], [(-1, 1, [])], [(0, -1, ["x"])], [(0, 1)], [(0, 1, [], [])], [(0, 1, "x")], [(0, 1, None)],
                             [(True, 1, [])], [(0, True, [])], [("0", 1, [])], [(0, 1, [3])], [(0, 1, ["a\nb"])], [None], "", None,
                             {}, {0: 1}, (0, 1, []), [(0, 1, {"x": 1})], [(1, 1, ["x"]), (1, 1, [])], [(0, 0, ["x"]), (0, 1, [])],
                             [(0, 1, ["w" * 201])], [(2, 1, []), (3, 0, ["x"])], [(4, 1, []), (5, 0, ["x"])]]:
            if thing != []:
                self.assertIs(is_difference(TEXT, thing), False)
                self.assertIs(caught(BadDifference, cut_text, TEXT, thing).thing, thing)
                self.assertIs(caught(BadDifference, turned_round, TEXT, thing).thing, thing)
        self.assertIs(is_difference([], []), True)
        self.assertIs(is_difference([], [(0, 0, ["x"])]), True)
        self.assertIs(is_difference([], [(0, 1, [])]), False)

    def test_no_text(self):
        for thing in BAD_WORDS:
            for call in (lambda text: cut_text(text, None), lambda text: turned_round(text, None),
                         lambda text: is_difference(text, None), lambda text: difference(text, None)):
                self.assertEqual(caught(NoText, call, ["a", "", thing, 3]).index, 2)
            self.assertEqual(caught(NoText, difference, ["a"], ["a", thing, 3]).index, 1)
        for thing in BAD_TEXTS:
            for call in (cut_text, turned_round, is_difference, difference):
                self.assertEqual(caught(NoText, call, thing, 3).index, 0)
            self.assertEqual(caught(NoText, difference, [], thing).index, 0)

    def test_all_differences_of_short_texts(self):
        words = [list(told) for count in range(3) for told in product("ab", repeat=count)]
        for count in range(3):
            for text in map(list, product("ab", repeat=count)):
                made = {}
                for cuts in all_differences(text, words):
                    self.assertIs(is_difference(text, cuts), True)
                    told = cut_text(text, as_lists(cuts))
                    self.assertTrue(exact(told, slow_cut(text, cuts)))
                    made.setdefault(tuple(told), []).append(cuts)
                for other, found in made.items():
                    if len(other) > 2:
                        continue
                    cuts = difference(text, list(other))
                    self.assertEqual(slow_cut(text, cuts), list(other))
                    self.assertEqual((weight(cuts), len(cuts)), min((weight(cuts), len(cuts)) for cuts in found))

    def test_by_definition_and_fact(self):
        fewer = 0
        for rng in seeds(250):
            one, other = random_text(rng, 6), random_text(rng, 6)
            cuts = difference(one, other)
            self.assertTrue(exact(cuts, [(place, many, list(words)) for place, many, words in cuts]))
            self.assertTrue(exact(difference(as_tuples(one), other), cuts))
            self.assertIs(is_difference(one, cuts), True)
            self.assertEqual(cut_text(one, cuts), other)
            self.assertEqual(weight(cuts), len(one) + len(other) - 2 * len(common_row(one, other)))
            counts = []
            for row in slow_common_rows(one, other):
                ends = [(-1, -1), *row, (len(one), len(other))]
                if len(row) == len(common_row(one, other)):
                    counts.append(sum(b != (a[0] + 1, a[1] + 1) for a, b in zip(ends, ends[1:])))
            self.assertEqual(len(cuts), min(counts))
            fewer += min(counts) < max(counts)
        self.assertGreater(fewer, 50)

    def test_turned_round(self):
        cuts = [(0, 1, ["x", "y"]), (2, 0, ["z"]), (3, 2, [])]
        self.assertTrue(exact(turned_round(TEXT, cuts), [(0, 2, ["a"]), (3, 1, []), (5, 0, ["a", "b"])]))
        self.assertTrue(exact(turned_round(cuts=as_tuples(cuts), text=tuple(TEXT)), turned_round(TEXT, cuts)))
        self.assertTrue(exact([turned_round([], []), turned_round(TEXT, [])], [[], []]))
        for rng in seeds(150):
            text = random_text(rng, 7)
            cuts = rng.choice(all_differences(text[:3], [[], ["x"], ["a", "b"]]))
            made = cut_text(text, cuts)
            back = turned_round(text, cuts)
            self.assertIs(is_difference(made, back), True)
            self.assertEqual(cut_text(made, back), text)
            self.assertEqual([(many, words) for _, many, words in back],
                             [(len(words), text[place:place + many]) for place, many, words in cuts])
            self.assertEqual(turned_round(made, back), cuts)

    def test_later_changes_have_no_effect(self):
        cuts = [(0, 1, ["x"])]
        made, back = cut_text(TEXT, cuts), turned_round(TEXT, cuts)
        cuts[0][2].append("y")
        made.clear()
        back[0][2].clear()
        self.assertEqual([cut_text(TEXT, [(0, 1, ["x"])]), TEXT], [list("xbcab"), list("abcab")])
        told = difference(TEXT, list("xbcab"))
        told[0][2].clear()
        self.assertEqual(difference(TEXT, list("xbcab")), [(0, 1, ["x"])])


class PatchTo(unittest.TestCase):
    def check(self, lot, text):
        patch = patch_to(lot, as_tuples(text), "made")
        self.assertEqual(patch, patch_to(name="made", text=text, lot=Lot([lot.patch_of(name) for name in lot.names()][::-1])))
        self.assertEqual([patch.called(), patch.backs()], ["made", []])
        page = page_of(Lot([lot.patch_of(name) for name in lot.names()] + [patch]))
        self.assertEqual(text_of(page), text)
        old = text_of(page_of(lot))
        self.assertEqual(len(patch.texts()) + len(patch.burials()), weight(difference(old, text)))
        return patch

    def test_patch_to(self):
        lot = Lot([A, B, C])
        patch = self.check(lot, ["m", "n", "y"])
        self.assertEqual([patch.texts(), patch.burials()], [["n"], []])
        self.assertEqual(self.check(lot, []).burials(), [("a", 1), ("b", 0)])
        self.assertEqual(self.check(lot, ["m", "y"]), Patch("made", []))
        self.assertEqual(self.check(Lot([]), []), Patch("made", []))
        self.assertEqual(self.check(Lot([]), ["x", "x"]).texts(), ["x", "x"])
        self.assertEqual(self.check(lot, ["y", "m"]).texts() in (["y"], ["m"]), True)

    def test_errors(self):
        lot = Lot([A, B, C, D])
        apart = Lot([A, Patch("e", ["q"])])
        self.assertIs(caught(NotRead, patch_to, apart, None, None).thing, apart)
        for thing in BAD_WORDS:
            self.assertEqual(caught(NoText, patch_to, lot, ["a", thing, 3], None).index, 1)
        for thing in BAD_TEXTS:
            self.assertEqual(caught(NoText, patch_to, lot, thing, None).index, 0)
        for thing in JUNK + ["", "A", "a" * 13, 0, ["a"], "e f", "1a"]:
            self.assertIs(caught(BadName, patch_to, lot, ["x"], thing).thing, thing)
        for name in "abcd":
            self.assertEqual(caught(TakenName, patch_to, lot, [], name).name, name)

    def test_by_definition(self):
        count = 0
        for number, rng in enumerate(seeds(400)):
            lot = random_lot(rng) if number % 3 == 0 else random_short_lot(rng, 6, 4, 0.1, 0.3)
            row = reading(page_of(lot))
            if row is None:
                self.assertIs(caught(NotRead, patch_to, lot, [], "made").thing, lot)
                continue
            count += len(row) > 1
            text = [words for words in text_of(page_of(lot)) if rng.random() < 0.7]
            for _ in range(rng.randint(0, 3)):
                text.insert(rng.randint(0, len(text)), rng.choice(["w", "x", "q"]))
            self.check(lot, text)
        self.assertGreater(count, 40)

    def test_dead_lines_that_lead_between(self):
        lines = [("g", number) for number in range(4)]
        ground = Patch("g", list("wxyz"), list(zip(lines, lines[1:])))
        lot = Lot([ground, Patch("h", [], [], lines[1:3])])
        patch = self.check(lot, ["w", "x", "z"])
        self.assertEqual([patch.texts(), patch.burials()], [["x"], []])


if __name__ == "__main__":
    unittest.main()
