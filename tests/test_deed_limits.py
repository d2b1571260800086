"""Points 86, 94, 102, 103, 117 and 126: calls within the limits come back with their answers."""

import random
import unittest
from itertools import combinations, product

from patchlots.against import answers_against, are_against
from patchlots.coming import can_die, can_fail, can_live
from patchlots.forgetting import forgettable, page_without, why_kept
from patchlots.hands import Hands, comes_to, enough_pulls
from patchlots.histories import how_many_parts
from patchlots.houses import House
from patchlots.housetexts import read_house, write_house
from patchlots.inverses import apart_later, apart_now, inverse_of, shows_later, taken_out, with_inverse
from patchlots.joined import between_chain, joined_lot
from patchlots.later import both_read, is_company, kept_page, parting_company, shared_lines, told_apart
from patchlots.lots import Lot, page_of
from patchlots.moves import are_claims, claims, fewest_moves
from patchlots.origins import ahead_by, dead_by, story_of, tried_parts
from patchlots.pages import Page
from patchlots.patches import Patch
from patchlots.pieces import held_by, in_pieces, is_held, is_parting, items_of, pieces_of
from patchlots.reading import is_ahead, reading
from patchlots.searching import ask_next, fewest_askings, is_search, never_parted, possible_ones, search
from patchlots.treedeeds import deed_done, least_clashes
from patchlots.trees import FileTree, paths_of, troubles

WORDS = "w" * 200


def chain_orders(lines):
    return list(zip(lines, lines[1:]))


class TreeLimits(unittest.TestCase):
    def test_twenty_entries_and_six_deeds(self):
        entries = [("e", number) for number in range(20)]
        kinds = {entry: "directory" for entry in entries}
        placings = {("m", number): (entry, (None, f"w{number}"), []) for number, entry in enumerate(entries)}
        more = {("n", number): (entry, (None, f"v{number}"), [("m", number)]) for number, entry in enumerate(entries)}
        tree = FileTree(kinds, {**placings, **more}, [])
        deeds = {}
        for number in range(6):
            inner, outer = entries[number], entries[(number + 1) % 6]
            deeds[f"h{number}"] = [("make", "file", (inner, "made")), ("move", entries[6 + number], (inner, "moved")),
                                   ("move", inner, (outer, f"in{number}")), ("bury", (f"h{number}", 0))]
        self.assertEqual(least_clashes(tree, deeds), [sorted(deeds)])
        together = tree
        for name, steps in deeds.items():
            together = together | deed_done(tree, name, steps)
        self.assertEqual(fewest_moves(together), [entries[0]])
        self.assertEqual(claims(together), [(entries[:6], 1)])

    def test_ten_entries_in_trouble(self):
        entries = [("e", number) for number in range(20)]
        places = [[(None, "same")]] * 4 + [[(entries[5], "w")], [(entries[4], "w")]] + [[(entries[6], "w")]] + [[(None, "p"), (None, "q")]]
        places += [[(entries[19], "x")], [(entries[19], "y")]] + [[(None, f"f{number}")] for number in range(10, 20)]
        placings = {("m", 2 * number + at): (entries[number], place, []) for number, told in enumerate(places) for at, place in enumerate(told)}
        tree = FileTree(dict.fromkeys(entries, "directory"), placings, [entries[19]])
        moved = fewest_moves(tree)
        self.assertEqual(moved, entries[:3] + [entries[4], entries[6]] + entries[7:10])
        told = claims(tree)
        self.assertEqual(sum(many for _, many in told), len(moved))
        self.assertTrue(are_claims(tree, told))

    def test_two_hundred_rounds(self):
        entries = [("e", number) for number in range(20)]
        pairs = [(one, other) for one, other in product(entries[:5], repeat=2) if one != other]
        placings = {("m", number): (one, (other, f"w{one[1]}"), []) for number, (one, other) in enumerate(pairs)}
        placings.update({entry: (entry, (None, f"w{entry[1]}"), []) for entry in entries[5:]})
        tree = FileTree(dict.fromkeys(entries, "directory"), placings, [])
        told = troubles(tree)
        self.assertEqual(len([trouble for trouble in told if trouble[0] == "round"]), 84)
        self.assertIsNone(paths_of(tree))
        self.assertEqual(fewest_moves(tree), entries[:5])


def great_patch(name, known, burials=(), backs=()):
    """A patch of six lines, eight orders, and so on, that tells some of the known lines."""
    own = [(name, number) for number in range(6)]
    orders = chain_orders(own) + [(known[0], own[0]), (own[5], known[1]), (known[0], own[5])] if known else chain_orders(own)
    return Patch(name, [WORDS] * 6, orders, burials, backs)


def great_lot():
    """Twelve patches of six lines each, as many burials and backs as may be."""
    ground = great_patch("a", [])
    lines = ground.own_lines()
    patches = [ground]
    for number, name in enumerate("bcdefghijkl"):
        burials = lines[1:5] if number < 6 else []
        backs = [(by, lines[1 + number % 4]) for by in "bcdefg"] if number >= 6 else []
        patches.append(great_patch(name, lines, burials, backs))
    return Lot(patches)


class LotLimits(unittest.TestCase):
    def test_away_now_and_later(self):
        lot = great_lot()
        for name in "hl":
            self.assertEqual(len(taken_out(lot, name)), 11)
            self.assertEqual(len(with_inverse(lot, name, "z")), 13)
            found = apart_later(lot, name, "z")
            self.assertTrue(shows_later(lot, name, "z", found))
        self.assertIsNotNone(apart_now(lot, "h", "z"))
        self.assertEqual(len(inverse_of(lot.patch_of("b"), "z").backs()), 4)
        alone = Lot([lot.patch_of("a"), great_patch("h", lot.patch_of("a").own_lines())])
        self.assertIsNone(apart_now(alone, "h", "z"))
        self.assertIsNone(apart_later(alone, "h", "z"))

    def test_pieces(self):
        lot = great_lot()
        patch = lot.patch_of("l")
        self.assertEqual(len(items_of(patch)), 6 + 8 + 6)
        self.assertEqual([len(piece) for piece in pieces_of(patch)], [14, 1, 1, 1, 1, 1, 1])
        self.assertTrue(is_parting(patch, pieces_of(patch)))
        row = held_by(patch, ("says", 0), ("says", 5))
        self.assertEqual(len(row), 11)
        self.assertTrue(is_held(patch, ("says", 0), ("says", 5), row))
        made = in_pieces(lot, "l", [f"l{number}" for number in range(7)])
        self.assertEqual(len(made), 18)
        self.assertEqual(len(page_of(made).lines()), 72)

    def test_joined(self):
        lot = great_lot()
        self.assertEqual(len(joined_lot(lot, list("hijkl"), "z")), 8)
        self.assertIsNone(between_chain(lot, list("bcdefg")))
        row = Lot([Patch("a0", ["x"])] + [Patch(f"a{number}", ["x"], [((f"a{number - 1}", 0), (f"a{number}", 0))]) for number in range(1, 12)])
        self.assertEqual(between_chain(row, ["a0", "a11"]), [f"a{number}" for number in sorted(range(12), reverse=True)])

    def test_origins(self):
        ground = Patch("z", [WORDS] * 8)
        lines = ground.own_lines()
        pairs = list(combinations(lines, 2))
        patches = [ground]
        for number, name in enumerate("abcdefghi"):
            own = [(name, at) for at in range(8)]
            orders = chain_orders(own) + [pairs[(number * 5 + at) % 28] for at in range(5)]
            patches.append(Patch(name, [WORDS] * 8, orders, lines if number % 2 else []))
        lot = Lot(patches)
        self.assertEqual(how_many_parts(lot), 513)
        found = ahead_by(lot, lines[0], lines[7])
        self.assertIn(["b", "z"], found)
        self.assertEqual(dead_by(lot, lines[3]), [[name, "z"] for name in "bdfh"])
        self.assertEqual(len(story_of(lot, lines[0])), 5)
        self.assertEqual(tried_parts(lot)[0], [])
        free = Lot([Patch(f"p{number}", ["x"]) for number in range(10)])
        self.assertEqual(len(tried_parts(free)), 11)
        self.assertEqual(ahead_by(free, ("p0", 0), ("p1", 0)), [])


class SearchLimits(unittest.TestCase):
    def test_seven_suspects_and_twelve_askings(self):
        suspects = list("abcdefg")
        rng = random.Random(5)
        sets = [list(names) for count in range(1, 7) for names in combinations(suspects, count)]
        for askings in ([[name] for name in suspects], [[name] for name in suspects] + rng.sample(sets, 5), rng.sample(sets, 12),
                        [suspects[:count] for count in range(8)]):
            for lies in (0, 1):
                fewest = fewest_askings(suspects, askings, lies)
                tree = search(suspects, askings, lies)
                self.assertEqual(tree is None, fewest is None)
                self.assertEqual(tree is None, never_parted(suspects, askings) is not None)
                if tree is not None:
                    self.assertTrue(is_search(suspects, askings, tree, lies))
                answers = [(index % len(askings), index % 3 == 0) for index in range(12)]
                self.assertEqual(possible_ones(suspects, askings, answers, lies), [
                    name for name in suspects if sum((name in askings[index]) != answer for index, answer in answers) <= lies])
                ask_next(suspects, askings, answers[:2], lies)
                paper = answers_against(suspects, askings[:6], 3, lies)
                self.assertTrue(paper is None or are_against(suspects, askings[:6], 3, paper, lies))

    def test_twenty_askings(self):
        suspects = list("abcdefg")
        askings = [[suspects[index % 7]] for index in range(20)]
        self.assertEqual(possible_ones(suspects, askings, [(index, False) for index in range(6)] + [(13, False)] * 6), [])
        self.assertIsNone(never_parted(suspects, askings))


class HandLimits(unittest.TestCase):
    def hands(self):
        ground = Patch("a", [WORDS] * 8, chain_orders([("a", number) for number in range(8)]))
        patches = {"a": ground}
        for number, name in enumerate("bcdefghijkl"):
            line = ("a", number % 8)
            own = [(name, 0)] if number < 11 else []
            patches[name] = Patch(name, [WORDS], [(line, own[0])] if own else [], [line] if number % 2 else [],
                                  [("c", ("a", 1))] if number == 8 else [])
        kept = {"h": "abcdefgh", "k": "aijkl" + "c", "m": "abckl", "n": "ac"}
        return Hands({name: Lot([patches[other] for other in names]) for name, names in kept.items()})

    def test_four_hands(self):
        hands = self.hands()
        self.assertEqual([len(hands.whole_lot()), len(page_of(hands.whole_lot()).lines())], [12, 19])
        for name in "hkmn":
            self.assertGreater(len(comes_to(hands, name)), 1)
            can_fail(hands, name)
            told = forgettable(hands, name)
            for line in page_of(hands.whole_lot()).lines():
                can_live(hands, line)
                can_die(hands, name, line)
                if line in page_of(hands.lots_told()[name]).lines():
                    self.assertEqual(why_kept(hands, name, line) is None, line in told)
        names = list("hkmn")
        behind = hands.behind_pulls([(names[number % 4], names[(number + 1) % 4]) for number in range(40)])
        self.assertTrue(all(lot == hands.whole_lot() for lot in behind.lots_told().values()))
        self.assertEqual(enough_pulls(behind), [])
        self.assertEqual(len(enough_pulls(hands)), 4)

    def test_as_many_pulls_as_can_be(self):
        hands = Hands({f"h{number}": Lot([Patch(f"p{number}{at}", [WORDS]) for at in range(3)]) for number in range(4)})
        self.assertEqual(len(enough_pulls(hands)), 6)

    def test_pages_without(self):
        lines = [("l", number) for number in range(40)]
        pairs = list(combinations(lines, 2))
        page = Page(dict.fromkeys(lines, WORDS), chain_orders(lines) + random.Random(1).sample(pairs, 161), lines[1::2])
        made = page_without(page, lines[1::2])
        self.assertEqual(reading(made), lines[::2])
        self.assertTrue(all(is_ahead(made, one, other) for one, other in combinations(lines[::2], 2)))


class CompanyLimits(unittest.TestCase):
    def test_fourteen_lines(self):
        lines = [("l", number) for number in range(14)]
        words = dict.fromkeys(lines, WORDS)
        one = Page(words, chain_orders(lines), lines[::2])
        other = Page(words, list(combinations(lines, 2)), lines[::2])
        self.assertIsNone(told_apart(one, other))
        self.assertEqual(len(shared_lines(one, other)), 14)
        self.assertEqual(kept_page(one, lines), other)
        third = Page(words, chain_orders(lines[:13]) + [(lines[11], lines[13])], lines[::2])
        self.assertEqual(told_apart(one, third), ("ahead", lines[12], lines[13]))
        company = parting_company(one, third)
        self.assertTrue(is_company(one, third, company))
        self.assertEqual([told is None for told in both_read(one, third, company)], [False, True])


class HouseLimits(unittest.TestCase):
    def test_forty_deeds(self):
        house = House()
        hands = [f"h{number}" for number in range(6)]
        for hand in hands:
            house.do(("come", hand))
        house.do(("type", "h0", "ground", [f"w{number}" for number in range(12)]))
        for hand in hands[1:]:
            house.do(("fetch", hand, "h0", None))
        for number in range(16):
            hand = hands[number % 6]
            text = house.text_at(hand)
            house.do(("type", hand, f"p{number}", text[:number % 12] + [WORDS] + text[number % 12:]))
        for number in range(4):
            house.do(("mark", f"m{number}", hands[number]))
        self.assertEqual(house.count(), 32)
        others = hands[1:5]
        calm, stuck = house.calm_turns("h0", others), house.stuck_turns("h0", others)
        self.assertEqual([calm, stuck].count(None), 1)
        text, told = house.together(hands)
        self.assertEqual(text is None, told != [])
        for hand in hands[1:]:
            house.would("h0", hand)
            house.do(("fetch", "h0", hand, None))
        house.do(("settle", "h0", "settled"))
        self.assertIsNotNone(house.text_at("h0"))
        self.assertEqual(len(page_of(house.lot_at("h0")).lines()), 28)
        self.assertEqual(read_house(write_house(house)), house)
        for number in range(house.count() + 1):
            self.assertEqual(house.at(number).count(), number)
        done = [house.undo() for _ in range(38)]
        self.assertEqual([house.again() for _ in range(38)], done[::-1])
        self.assertEqual(house.trial(lambda given: [given.undo() for _ in range(38)]), done)
        self.assertEqual(house.count(), 38)

    def test_thirty_patches(self):
        house = House()
        house.do(("come", "h"))
        for number in range(30):
            house.do(("record", "h", Patch(f"p{number}", [WORDS] * 2)))
        house.do(("come", "k"))
        self.assertEqual(house.do(("fetch", "k", "h", None))[0], house.lot_at("h").names())
        self.assertEqual(read_house(write_house(house)), house)
        self.assertEqual(len(house.clashes_at("h")), 60 * 59 // 2)


if __name__ == "__main__":
    unittest.main()
