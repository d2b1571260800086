"""Points 76 and 77: three texts, merged by common rows, and by all longest ones."""

import unittest

from patchlots.commonrows import common_row, is_common_row
from patchlots.errors import NoRow, NoText
from patchlots.threetexts import all_merged, clash_somehow, gaps, merge_somehow, merged
from tests.helping import JUNK, as_lists, as_tuples, caught, exact, random_text, seeds, slow_common_rows
from tests.test_commonrows import BAD_TEXTS, BAD_WORDS

BASE, ONE, OTHER = list("abcd"), list("axcd"), list("abcyd")
LEFT, RIGHT = [(0, 0), (2, 2), (3, 3)], [(0, 0), (1, 1), (2, 2), (3, 4)]


def slow_gaps(base, one, other, left, right):
    held = [place for place, _ in left if place in dict(right)]
    ends = [-1, *held, len(base)], [-1, *[dict(left)[place] for place in held], len(one)], [
        -1, *[dict(right)[place] for place in held], len(other)]
    return [tuple(list(text[cut[at] + 1:cut[at + 1]]) for text, cut in zip((base, one, other), ends))
            for at in range(len(held) + 1)]


def slow_merged(base, one, other, left, right):
    held = [place for place, _ in left if place in dict(right)]
    text = []
    for at, (old, mine, theirs) in enumerate(slow_gaps(base, one, other, left, right)):
        if mine == old:
            text += theirs
        elif theirs in (old, mine):
            text += mine
        else:
            return None
        text += [base[held[at]]] if at < len(held) else []
    return text


def edited(rng, text):
    """What a hand makes of a text by a few deeds."""
    made = list(text)
    for _ in range(rng.randint(0, 3)):
        if made and rng.random() < 0.5:
            made.pop(rng.randrange(len(made)))
        else:
            made.insert(rng.randint(0, len(made)), rng.choice("abz"))
    return made


def slow_longest(one, other):
    rows = slow_common_rows(one, other)
    return [row for row in rows if len(row) == max(map(len, rows))]


class Merged(unittest.TestCase):
    def test_gaps_and_merged(self):
        told = [([], [], []), (["b"], ["x"], ["b"]), ([], [], ["y"]), ([], [], [])]
        self.assertTrue(exact(gaps(BASE, ONE, OTHER, LEFT, RIGHT), told))
        self.assertTrue(exact(gaps(right=as_tuples(RIGHT), left=as_lists(LEFT), other=tuple(OTHER), one=tuple(ONE),
                                   base=tuple(BASE)), told))
        self.assertTrue(exact(merged(BASE, ONE, OTHER, LEFT, RIGHT), list("axcyd")))
        self.assertTrue(exact(merged(right=RIGHT, left=as_tuples(LEFT), other=OTHER, one=ONE, base=tuple(BASE)), list("axcyd")))
        self.assertIsNone(merged(BASE, ONE, ["q", *OTHER[2:]], LEFT, [(2, 1), (3, 3)]))
        self.assertTrue(exact(gaps([], [], [], [], ()), [([], [], [])]))
        self.assertTrue(exact(merged([], [], [], [], []), []))
        self.assertTrue(exact(merged([], ["x"], [], [], []), ["x"]))
        self.assertTrue(exact(merged([], ["x"], ["x"], [], []), ["x"]))
        self.assertIsNone(merged([], ["x"], ["y"], [], []))
        self.assertEqual(merged(BASE, [], BASE, [], [(place, place) for place in range(4)]), [])
        self.assertEqual(merged(BASE, BASE, BASE, [], []), BASE)

    def test_errors(self):
        for call in (gaps, merged):
            for thing in BAD_WORDS:
                for at in range(3):
                    texts = [["a"]] * at + [["a", thing, 3]] + [None] * (2 - at)
                    self.assertEqual(caught(NoText, call, *texts, None, None).index, 1)
            for thing in BAD_TEXTS:
                for at in range(3):
                    texts = [["a"]] * at + [thing] + [[3, 3]] * (2 - at)
                    self.assertEqual(caught(NoText, call, *texts, None, None).index, 0)
            for thing in JUNK + [[(0, 1)], [(1, 1)], [(3, 3), (0, 0)], [(0, 0), (0, 0)], None, "", {}, [None], [(0, False)], (0, 0)]:
                if thing != []:
                    self.assertIs(caught(NoRow, call, BASE, ONE, OTHER, thing, None).thing, thing)
                    if thing != [(1, 1)]:
                        self.assertIs(caught(NoRow, call, BASE, ONE, OTHER, LEFT, thing).thing, thing)

    def test_by_definition_and_facts(self):
        clashing = 0
        for rng in seeds(300):
            base, one, other = [random_text(rng, 5) for _ in range(3)]
            left = rng.choice(slow_common_rows(base, one))
            right = rng.choice(slow_common_rows(base, other))
            told = gaps(base, one, other, left, right)
            self.assertTrue(exact(told, slow_gaps(base, one, other, left, right)))
            self.assertEqual(len(told), 1 + len({place for place, _ in left} & {place for place, _ in right}))
            text = merged(base, one, other, left, right)
            self.assertTrue(exact(text, slow_merged(base, one, other, left, right)))
            self.assertEqual(text, merged(base, other, one, right, left))
            clashing += text is None
            whole = [(place, place) for place in range(len(base))]
            self.assertEqual(merged(base, base, other, whole, right), other)
            self.assertEqual(merged(base, one, base, left, whole), one)
        self.assertGreater(clashing, 80)

    def test_later_changes_have_no_effect(self):
        gaps(BASE, ONE, OTHER, LEFT, RIGHT)[1][0].clear()
        merged(BASE, BASE, OTHER, [], []).clear()
        merged(BASE, ONE, BASE, [], []).clear()
        self.assertEqual([BASE, ONE, OTHER], [list("abcd"), list("axcd"), list("abcyd")])


class ForAllRows(unittest.TestCase):
    def test_for_all_rows(self):
        self.assertTrue(exact(merge_somehow(BASE, ONE, OTHER), (LEFT, RIGHT)))
        self.assertTrue(exact(merge_somehow(other=tuple(OTHER), one=tuple(ONE), base=tuple(BASE)), (LEFT, RIGHT)))
        self.assertIsNone(clash_somehow(BASE, ONE, OTHER))
        self.assertTrue(exact(all_merged(other=OTHER, one=ONE, base=BASE), [list("axcyd")]))
        self.assertIsNone(merge_somehow(["a"], ["b"], ["c"]))
        self.assertTrue(exact(clash_somehow(other=["c"], one=["b"], base=["a"]), ([], [])))
        self.assertTrue(exact(all_merged(["a"], ["b"], ["c"]), []))
        self.assertTrue(exact([merge_somehow([], [], []), clash_somehow([], [], []), all_merged([], [], [])],
                              [([], []), None, [[]]]))

    def test_what_is_merged_hangs_on_the_rows(self):
        told = all_merged(["a"], ["x", "a", "a"], ["a", "y"])
        self.assertIsNotNone(merge_somehow(["a"], ["x", "a", "a"], ["a", "y"]))
        self.assertIsNotNone(clash_somehow(["a"], ["x", "a", "a"], ["a", "y"]))
        self.assertEqual(told, [["x", "a", "a", "y"]])
        self.assertEqual(len(all_merged(["a"], ["a", "a"], ["a", "b"])), 1)
        self.assertEqual(all_merged(list("bbb"), list("bbbb"), list("bacb")), [list("bacbb"), list("bbacb")])

    def test_no_text(self):
        for call in (merge_somehow, clash_somehow, all_merged):
            for thing in BAD_WORDS:
                for at in range(3):
                    texts = [["a"]] * at + [["a", "", thing, 3]] + [None] * (2 - at)
                    self.assertEqual(caught(NoText, call, *texts).index, 2)
            for thing in BAD_TEXTS:
                for at in range(3):
                    self.assertEqual(caught(NoText, call, *([[]] * at + [thing] + [[3, 3]] * (2 - at))).index, 0)

    def test_by_definition(self):
        several = mixed = 0
        for rng in seeds(250):
            base = [rng.choice("ab") for _ in range(rng.randint(0, 5))]
            one, other = edited(rng, base), edited(rng, base)
            pairs = [(left, right) for left in slow_longest(base, one) for right in slow_longest(base, other)]
            texts = [slow_merged(base, one, other, *pair) for pair in pairs]
            good = [pair for pair, text in zip(pairs, texts) if text is not None]
            bad = [pair for pair, text in zip(pairs, texts) if text is None]
            wanted = sorted({tuple(text) for text in texts if text is not None})
            self.assertTrue(exact(all_merged(base, one, other), [list(text) for text in wanted]))
            several += len(wanted) > 1
            mixed += len(good) > 0 and len(bad) > 0
            for call, found in ((merge_somehow, good), (clash_somehow, bad)):
                told = call(base, one, other)
                self.assertEqual(told is None, found == [])
                if told is not None:
                    self.assertIn(told, found)
                    self.assertTrue(exact(call(as_tuples(base), as_tuples(one), as_tuples(other)), told))
                    self.assertTrue(exact(told, (list(told[0]), list(told[1]))))
        self.assertGreater(several, 8)
        self.assertGreater(mixed, 8)

    def test_new_each_time(self):
        pair = merge_somehow(BASE, ONE, OTHER)
        pair[0].clear()
        all_merged(BASE, ONE, OTHER)[0].clear()
        self.assertEqual(merge_somehow(BASE, ONE, OTHER), (LEFT, RIGHT))
        self.assertEqual(all_merged(BASE, ONE, OTHER), [list("axcyd")])
        self.assertIs(is_common_row(BASE, ONE, common_row(BASE, ONE)), True)


if __name__ == "__main__":
    unittest.main()
