"""Point 48: texts, the texts over a span of them, and its clash."""

import unittest
from itertools import combinations, permutations, product

from patchlots.bares import Bare
from patchlots.errors import BadSpan, NotTexts
from patchlots.gluing import glued, through
from patchlots.maps import maps
from patchlots.overtexts import clash_over, texts_over
from tests.helping import JUNK, as_lists, as_tuples, caught, exact, seeds, text_of_words

EMPTY = Bare([], [], [])
SPAN = [text_of_words(["a", "c"]), text_of_words(["a", "x", "c"]), text_of_words(["a", "y", "c"]), (0, 2), (0, 2)]


def random_span(rng):
    """A span of texts that say few words."""
    words = [rng.choice("xy") for _ in range(rng.randint(0, 2))]
    ends = []
    for _ in range(2):
        told = [[rng.choice("xy") for _ in range(rng.choice([0, 0, 1, 2]))] for _ in range(len(words) + 1)]
        told = [told[0]] + [[word] + more for word, more in zip(words, told[1:])]
        ways = [sum(len(part) for part in told[:at + 1]) for at in range(len(words))]
        ends.append((text_of_words([word for part in told for word in part]), ways))
    return [text_of_words(words), ends[0][0], ends[1][0], ends[0][1], ends[1][1]]


def slow_texts(span):
    """By trying all orders of the points of the glue."""
    page, mine, theirs = glued(span)
    found = set()
    for row in permutations(range(len(page))):
        if all(row.index(a) < row.index(b) for a, b in page.aheads()):
            found.add((tuple(row.index(point) for point in mine), tuple(row.index(point) for point in theirs)))
    return sorted(found)


class OverTexts(unittest.TestCase):
    def test_the_example_of_50(self):
        self.assertTrue(exact(clash_over(SPAN), (1, 1)))
        self.assertTrue(exact(texts_over(SPAN), [((0, 1, 3), (0, 2, 3)), ((0, 2, 3), (0, 1, 3))]))
        self.assertTrue(exact(texts_over(span=as_tuples(SPAN)), texts_over(SPAN)))
        self.assertTrue(exact(clash_over(span=as_lists(SPAN)), (1, 1)))

    def test_without_clash(self):
        self.assertTrue(exact(texts_over([EMPTY, EMPTY, EMPTY, [], []]), [((), ())]))
        self.assertIsNone(clash_over([EMPTY, EMPTY, EMPTY, [], []]))
        one = text_of_words(["a", "b"])
        self.assertEqual(texts_over([EMPTY, one, EMPTY, [], []]), [((0, 1), ())])
        self.assertEqual(texts_over([one, one, one, [0, 1], [0, 1]]), [((0, 1), (0, 1))])
        common = text_of_words(["b"])
        span = [common, one, text_of_words(["b", "c"]), [1], [0]]
        self.assertEqual([texts_over(span), clash_over(span)], [[((0, 1), (1, 2))], None])

    def test_many(self):
        span = [EMPTY, text_of_words(["a", "b", "c"]), text_of_words(["a", "b", "c"]), [], []]
        self.assertEqual(len(texts_over(span)), 20)
        self.assertEqual(texts_over(span)[0], ((0, 1, 2), (3, 4, 5)))
        self.assertEqual(clash_over(span), (0, 0))

    def test_not_texts(self):
        texts = SPAN[:3]
        for bare in (Bare(["a", "c"], [(0, 1)], [1]), Bare(["a", "c"], [], []), Bare(["a", "c"], [(1, 0)], []),
                     Bare(["a", "c"], [(0, 1), (1, 0)], []), Bare(["a", "c"], [(0, 1), (1, 1)], [])):
            for index, maps_told in ((0, None), (1, None), (2, None)):
                three = texts[:index] + [bare] + texts[index + 1:]
                ways = [maps(three[0], three[1]), maps(three[0], three[2])]
                for left, right in product(*ways):
                    span = three + [left, right]
                    for call in (texts_over, clash_over):
                        self.assertIs(caught(NotTexts, call, span).span, span)
        span = (EMPTY, Bare(["a"], [], [0]), EMPTY, [], [])
        self.assertIs(caught(NotTexts, clash_over, span).span, span)
        span = (EMPTY, EMPTY, Bare(["a"], [(0, 0)], []), [], [])
        self.assertIs(caught(NotTexts, texts_over, span).span, span)
        span = [Bare(["a", "a"], [], []), text_of_words(["a", "a"]), text_of_words(["a", "a"]), [0, 1], [1, 0]]
        self.assertIs(caught(NotTexts, texts_over, span).span, span)

    def test_not_texts_behind_bad_span(self):
        dead = Bare(["a"], [], [0])
        for call in (texts_over, clash_over):
            for thing in JUNK + ["abcde", [], SPAN[:4]]:
                self.assertEqual(caught(BadSpan, call, thing).index, 0)
                self.assertEqual(caught(BadSpan, call, [dead, dead, dead, [0], thing]).index, 4)
                self.assertEqual(caught(BadSpan, call, SPAN[:3] + [thing, thing]).index, 3)

    def test_by_definition_and_it_holds(self):
        clashing = 0
        for rng in seeds(200):
            span = random_span(rng)
            page, mine, theirs = glued(span)
            if len(page) > 6:
                continue
            told = texts_over(span)
            self.assertTrue(exact(told, slow_texts(span)))
            self.assertGreaterEqual(len(told), 1)
            aheads = page.aheads()
            apart = [(i, j) for i, j in product(range(len(mine)), range(len(theirs)))
                     if i not in span[3] and j not in span[4]
                     and (mine[i], theirs[j]) not in aheads and (theirs[j], mine[i]) not in aheads]
            self.assertTrue(exact(clash_over(span), apart[0] if apart else None))
            self.assertEqual(clash_over(span) is None, len(told) == 1)
            clashing += len(told) > 1
            words = page.told_words()
            landings = []
            for one, other in told:
                at = {**dict(zip(one, mine)), **dict(zip(other, theirs))}
                self.assertEqual(sorted(at), list(range(len(page))))
                landings.append((text_of_words([words[at[place]] for place in sorted(at)]), one, other))
            for landing in landings:
                self.assertEqual(sorted(through(span, landing)), list(range(len(page))))
            goes = [all(any([way[a] for a in one[1]] == list(other[1]) and [way[a] for a in one[2]] == list(other[2])
                            for way in maps(one[0], other[0])) for other in landings) for one in landings]
            self.assertEqual(any(goes), clash_over(span) is None)
        self.assertGreater(clashing, 50)

    def test_new_each_time(self):
        texts_over(SPAN).clear()
        self.assertEqual(len(texts_over(SPAN)), 2)

    def test_chains_told_by_fewer_arrows_are_texts(self):
        chain = Bare(["a", "b", "c"], [(0, 1), (1, 2)], [])
        self.assertEqual(text_of_words(["a", "b", "c"]).arrows(), list(combinations(range(3), 2)))
        self.assertEqual(texts_over([chain, chain, chain, [0, 1, 2], (0, 1, 2)]), [((0, 1, 2), (0, 1, 2))])


if __name__ == "__main__":
    unittest.main()
