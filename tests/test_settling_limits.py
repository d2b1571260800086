"""Points 70, 79 and 86, as far as the trees go: calls within the limits come back with their answers."""

import random
import unittest
from itertools import combinations

from patchlots.columns import (
    are_columns, columns, is_scattered, is_worth_cover, richest_stay, scattered, worth_cover,
)
from patchlots.commonrows import (
    common_row, is_common_row, is_cover, least_cover, many_common_rows, matches_in_all, matches_in_some,
    surely_kept, surely_taken,
)
from patchlots.differences import cut_text, difference, patch_to, turned_round
from patchlots.lots import Lot, page_of
from patchlots.pages import Page
from patchlots.patches import Patch
from patchlots.reading import reading, text_of
from patchlots.rows import rows_of
from patchlots.settling import (
    cheapest_settlement, fewest_orders, jumps, settles, turned_pairs, with_buried, with_orders,
)
from patchlots.stays import (
    always_stay, fewest_buried, is_levelling, is_stay, longest_stay, sometimes_stay, stay_levels, stayers,
)
from patchlots.threetexts import all_merged, clash_somehow, gaps, merge_somehow, merged
from patchlots.trees import FileTree, paths_of, troubles

LINES = [("l", number) for number in range(40)]


def page_with(orders, many):
    """A page of forty lines, so many of them, each third one or so, live."""
    live = LINES[1::40 // many][:many]
    return Page({line: "w" for line in LINES}, orders, [line for line in LINES if line not in live])


class Settling(unittest.TestCase):
    def test_sixteen_live_lines_of_forty(self):
        rng = random.Random(3)
        for many in (30, 60, 120, 200):
            page = page_with(rng.sample(list(combinations(LINES, 2)), many), 16)
            self.assertEqual(stayers(page), page.live())
            stay = longest_stay(page)
            self.assertIs(is_stay(page, stay), True)
            self.assertEqual([len(stay_levels(page)), 16 - fewest_buried(page)], [len(stay), len(stay)])
            self.assertIs(is_levelling(page, stay_levels(page)), True)
            self.assertTrue(set(always_stay(page)) <= set(stay) <= set(sometimes_stay(page)))
            told, loose = columns(page), scattered(page)
            self.assertEqual(len(told), len(loose))
            self.assertTrue(are_columns(page, told) and is_scattered(page, loose))
            worths = {line: rng.randrange(10 ** 9) for line in page.live()}
            total, rich = richest_stay(page, worths)
            self.assertIs(is_stay(page, rich), True)
            cover = worth_cover(page, worths)
            self.assertIs(is_worth_cover(page, worths, cover), True)
            self.assertEqual(sum(number for number, _ in cover), total)
            row = [line for line in LINES if line in worths]
            self.assertIs(settles(page, jumps(page, row), []), True)
            self.assertIs(settles(page, [], [line for line in row if line not in stay]), True)
            both = turned_pairs(page, list(zip(row, row[1:])), jumps(page, row))
            self.assertEqual(both, [])

    def test_all_apart_and_all_in_a_row(self):
        free = page_with([], 16)
        self.assertEqual([len(columns(free)), len(scattered(free)), len(longest_stay(free))], [16, 16, 1])
        self.assertEqual(stay_levels(free), [free.live()])
        rows = [free.live(), free.live()[::-1]]
        told = turned_pairs(free, *[list(zip(row, row[1:])) for row in rows])
        self.assertEqual(told, list(combinations(free.live(), 2)))
        chain = page_with(list(zip(LINES, LINES[1:])), 16)
        self.assertEqual([len(columns(chain)), len(scattered(chain)), longest_stay(chain)], [1, 1, chain.live()])
        turned = with_orders(chain, [(LINES[-1], LINES[0])])
        self.assertEqual([stayers(turned), longest_stay(turned), fewest_buried(turned), columns(turned)], [[], [], 16, []])
        self.assertEqual(cheapest_settlement(turned, 10 ** 9 - 1), (16 * (10 ** 9 - 1), [], turned.live()))

    def test_seven_live_lines(self):
        rng = random.Random(4)
        for many in (0, 20, 60, 120, 200):
            page = page_with(rng.sample(list(combinations(LINES, 2)), many), 7)
            orders = fewest_orders(page)
            self.assertIs(settles(page, orders, []), True)
            if many == 0:
                self.assertEqual(len(orders), 6)
            rows = rows_of(page) if many > 20 else []
            self.assertTrue(all(len(jumps(page, row)) >= len(orders) for row in rows[:1000]))
            costs = []
            for price in (0, 1, 2, 3, 10 ** 9 - 1):
                cost, more, lines = cheapest_settlement(page, price)
                self.assertIs(settles(page, more, lines), True)
                self.assertEqual(cost, len(more) + price * len(lines))
                costs.append(cost)
            self.assertEqual(costs, sorted(costs))
            self.assertEqual(costs[3:], [len(orders)] * 2)

    def test_what_was_returned_is_passed_on(self):
        page = page_with([], 16)
        buried = with_buried(page, page.live()[7:])
        self.assertEqual(len(fewest_orders(buried)), 6)
        self.assertEqual(len(rows_of(with_orders(buried, fewest_orders(buried)))), 1)


class Texts(unittest.TestCase):
    def test_sixty_lines_and_seven_hundred_matches(self):
        rng = random.Random(5)
        one = [f"w{number % 5}" for number in range(60)]
        other = [f"w{rng.randrange(5)}" for _ in range(58)]
        row = common_row(one, other)
        cover = least_cover(one, other)
        self.assertTrue(600 < sum(map(len, cover)) <= 720)
        self.assertIs(is_common_row(one, other, row), True)
        self.assertIs(is_cover(one, other, cover), True)
        self.assertEqual(len(row), len(cover))
        cuts = difference(one, other)
        self.assertEqual(cut_text(one, cuts), other)
        self.assertEqual(sum(many + len(words) for _, many, words in cuts), 118 - 2 * len(row))
        self.assertEqual(cut_text(other, turned_round(one, cuts)), one)
        same = ["w"] * 26
        self.assertEqual([len(common_row(same, same)), len(least_cover(same, same))], [26, 26])
        self.assertIs(is_cover(same, same, least_cover(same, same)), True)
        self.assertEqual(difference(["w"] * 60, ["w"] * 11)[1:], [])

    def test_thirty_lines(self):
        one, other = list("ab" * 15), list("ba" * 15)
        self.assertEqual(many_common_rows(one, other), 2)
        self.assertEqual([len(matches_in_all(one, other)), len(matches_in_some(one, other))], [0, 58])
        self.assertEqual([surely_kept(one, other), surely_taken(one, other)], [list(range(1, 29)), []])
        same = ["w"] * 30
        self.assertEqual(many_common_rows(same, same[:15]), 155117520)
        self.assertEqual([matches_in_all(same, same), surely_kept(same, same)], [[(at, at) for at in range(30)], list(range(30))])
        self.assertEqual([matches_in_all(same, same[:15]), surely_kept(same, same[:15])], [[], []])
        self.assertEqual(len(matches_in_some(same, same[:15])), 16 * 15)

    def test_three_texts_of_twelve_lines(self):
        base = list("abcdefghijkl")
        one, other = ["x", *base[1:]], [*base[:11], "y"]
        whole = [(place, place) for place in range(1, 12)], [(place, place) for place in range(11)]
        self.assertEqual(merged(base, one, other, *whole), ["x", *base[1:11], "y"])
        self.assertEqual(len(gaps(base, one, other, *whole)), 11)
        same = ["w"] * 12
        self.assertEqual(all_merged(same, same[:11], same + ["w"][:0]), [same[:11]])
        told = all_merged(["w"] * 8, ["w"] * 5, ["w"] * 6)
        self.assertEqual([many_common_rows(["w"] * 8, ["w"] * 5), many_common_rows(["w"] * 8, ["w"] * 6)], [56, 28])
        self.assertEqual(told, sorted(told))
        self.assertEqual(merge_somehow(["w"] * 8, ["w"] * 5, ["w"] * 6) is None, told == [])
        self.assertEqual(clash_somehow(same, same, same), None)
        left, right = merge_somehow(list("abab" * 3), list("abab" * 2 + "ab"), list("ab" * 6))
        self.assertEqual([len(left), len(right)], [10, 12])

    def test_a_lot_with_thirty_lines(self):
        ground = Patch("g", [f"w{number}" for number in range(30)],
                       list(zip([("g", at) for at in range(30)], [("g", at) for at in range(1, 30)])))
        lot = Lot([ground, Patch("h", [], [], [("g", at) for at in range(0, 30, 3)])])
        text = text_of(page_of(lot))
        made = [f"x{number}" for number in range(30)] + text[5:15] + ["w0"] * 20
        patch = patch_to(lot, made, "p")
        whole = Lot([ground, lot.patch_of("h"), patch])
        self.assertEqual(text_of(page_of(whole)), made)
        self.assertEqual(len(patch.texts()) + len(patch.burials()), 50 + len(text) - 10)
        self.assertEqual(text_of(page_of(Lot([*[whole.patch_of(name) for name in whole.names()],
                                              patch_to(whole, text, "q")]))), text)
        self.assertIsNotNone(reading(page_of(whole)))


class Trees(unittest.TestCase):
    def test_twenty_entries_and_forty_placings(self):
        entries = [("e", number) for number in range(20)]
        kinds = dict.fromkeys(entries, "directory")
        chain = {("m", at): (entry, (entries[at - 1] if at else None, "w"), []) for at, entry in enumerate(entries)}
        more = {("n", at): (entry, (None, "x"), [("m", at)]) for at, entry in enumerate(entries)}
        self.assertEqual(paths_of(FileTree(kinds, chain, []))[entries[19]], ("w",) * 20)
        tree = FileTree(kinds, {**chain, **more}, [])
        self.assertEqual(len(troubles(tree)), 190)
        self.assertIsNone(paths_of(tree))
        round_about = {**chain, ("m", 0): (entries[0], (entries[19], "w"), [])}
        self.assertEqual(troubles(FileTree(kinds, round_about, [])), [("round", entries[0], *entries[:0:-1])])
        self.assertIsNone(paths_of(FileTree(kinds, round_about, [])))

    def test_two_hundred_rounds(self):
        # Seven steps, each with two ways to the next one: the rounds go through one of both in each.
        entries = [("e", number) for number in range(20)]
        kinds = dict.fromkeys(entries, "directory")
        pairs = [(0, 1), (0, 2)]
        for at in range(1, 13, 2):
            pairs += [(one, other) for one in (at, at + 1) for other in (at + 2, at + 3)]
        pairs += [(13, 0), (14, 0), (15, 16), (16, 17), (17, 18), (18, 19), (19, 15)]
        placings = {("m", number): (entries[one], (entries[other], f"w{one}"), [])
                    for number, (one, other) in enumerate(pairs)}
        found = [row for row in troubles(FileTree(kinds, placings, [])) if row[0] == "round"]
        self.assertEqual(len(found), 2 ** 7 + 1)
        self.assertEqual(found, sorted(set(found)))
        self.assertEqual(found[-1], ("round", *entries[15:]))

    def test_many_walks_and_no_round(self):
        entries = [("e", number) for number in range(20)]
        kinds = dict.fromkeys(entries, "directory")
        pairs = [(at + one, at + 2 + other) for at in range(0, 18, 2) for one in range(2) for other in range(2)]
        for turned in (False, True):
            told = [pair[::-1] if turned else pair for pair in pairs]
            ends = [(19, None), (18, None), (1, None), (0, None)]
            placings = {("m", number): (entries[one], (None if other is None else entries[other], f"w{one}"), [])
                        for number, (one, other) in enumerate(told + ends)}
            tree = FileTree(kinds, placings, [])
            self.assertEqual([row for row in troubles(tree) if row[0] == "round"], [])
            self.assertIsNone(paths_of(tree))


if __name__ == "__main__":
    unittest.main()
