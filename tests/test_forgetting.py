"""Points 107 to 109: what a hand can forget, pages without lines, and going on without them."""

import unittest
from itertools import product

from patchlots.coming import can_live
from patchlots.errors import BadForget, NoHand, NoLine, OnRing
from patchlots.forgetting import forgettable, page_without, why_kept
from patchlots.hands import Hands
from patchlots.lots import Lot, page_of
from patchlots.pages import Page
from patchlots.patches import Patch
from patchlots.reading import reading
from tests.helping import (
    A, B, C, D, JUNK, as_lists, caught, exact, random_hands, random_page, seeds, slow_aheads, walks,
)

A0, A1, B0, C0 = ("a", 0), ("a", 1), ("b", 0), ("c", 0)


def lines_of(patch):
    return {line for order in patch.orders() for line in order} | set(patch.burials()) | {line for _, line in patch.backs()}


def with_more(lot, patch):
    return Lot([lot.patch_of(name) for name in lot.names()] + [patch])


def written(rng, lot, name):
    """A patch of a new name that tells none but its own lines and such as are live with the hand."""
    live = page_of(lot).live()
    own = [(name, number) for number in range(rng.choice([0, 1, 2]))]
    pairs = [pair for pair in product(live + own, repeat=2) if pair[0] != pair[1]]
    return Patch(name, ["w"] * len(own), rng.sample(pairs, min(len(pairs), rng.randint(0, 3))),
                 [line for line in live if rng.random() < 0.3])


def gone_on(rng, hands, steps):
    """The lots of all hands behind each of some pulls and writings, in turn."""
    lots = dict(hands.lots_told())
    for number in range(steps):
        one = rng.choice(list(lots))
        if rng.random() < 0.5:
            lots[one] = with_more(lots[one], written(rng, lots[one], f"new{number}"))
        else:
            lots[one] = lots[one] | lots[rng.choice(list(lots))]
        yield dict(lots)


class Kept(unittest.TestCase):
    def test_plain(self):
        hands = Hands({"h": Lot([A, C]), "k": Lot([A, C, Patch("e", [], [(A1, A0)])])})
        self.assertTrue(exact(why_kept(hands, "h", ["a", 0]), ("told", "e")))
        self.assertIsNone(why_kept(line=A0, name="k", hands=hands))
        self.assertTrue(exact(why_kept(hands, "h", A1), ("live", ["h"])))
        self.assertTrue(exact([forgettable(hands, "h"), forgettable(name="k", hands=hands)], [[], [A0]]))
        hands = Hands({"h": Lot([A, C]), "k": Lot([A, C, D, Patch("e", [], [(A1, A0)])])})
        self.assertEqual(why_kept(hands, "h", A0), ("live", ["k"]))

    def test_one_hand_alone(self):
        hands = Hands({"h": Lot([A, C, Patch("e", [], burials=[A1])])})
        self.assertEqual([why_kept(hands, "h", A0), why_kept(hands, "h", A1)], [None, None])
        self.assertEqual(forgettable(hands, "h"), [A0, A1])

    def test_what_tells_a_line(self):
        ground = Lot([Patch("a", ["x", "y"]), Patch("c", [], burials=[A0])])
        both = Patch("x", [], burials=[A0])
        for patch in (both, Patch("e", ["q"], [(("e", 0), A0)]), Patch("e", [], [(A0, A1)])):
            hands = Hands({"h": ground, "k": with_more(ground, patch)})
            self.assertEqual(why_kept(hands, "h", A0), ("told", patch.called()))
        undone = Lot([ground.patch_of("a"), ground.patch_of("c"), both])
        hands = Hands({"h": undone, "k": with_more(undone, Patch("e", [], backs=[("x", A0)]))})
        self.assertEqual(why_kept(hands, "h", A0), ("told", "e"))
        hands = Hands({"h": undone, "k": with_more(undone, Patch("e", ["w"], [(A1, ("e", 0))]))})
        self.assertIsNone(why_kept(hands, "h", A0))

    def test_errors(self):
        hands = Hands({"h": Lot([A]), "k": Lot([A, B, Patch("c", ["w"])])})
        for thing in JUNK + [3, "", "z", ["h"], ("h",), A0]:
            self.assertIs(caught(NoHand, why_kept, hands, thing, None).name, thing)
            self.assertIs(caught(NoHand, forgettable, hands, thing).name, thing)
        for thing in JUNK + [3, "", "a0", ("a", 2), B0, C0, ("a", False)]:
            self.assertIs(caught(NoLine, why_kept, hands, "h", thing).line, thing)

    def test_by_definition(self):
        met = {}
        for rng in seeds(120):
            hands = random_hands(rng)
            whole = hands.whole_lot()
            for name, lot in hands.lots_told().items():
                page = page_of(lot)
                told = {line: why_kept(hands, name, line) for line in page.lines()}
                for line, why in told.items():
                    living = can_live(hands, line)
                    telling = [other for other in whole.names() if other not in lot and line in lines_of(whole.patch_of(other))]
                    wanted = ("live", living) if living else ("told", telling[0]) if telling else None
                    self.assertTrue(exact(why, wanted))
                    kind = why and why[0]
                    met[kind] = met.get(kind, 0) + 1
                wanted = [line for line, why in told.items() if why is None]
                self.assertTrue(exact(forgettable(hands, name), wanted))
                self.assertTrue(set(wanted) <= set(page.dead()))
        self.assertGreater(min(met[kind] for kind in (None, "live", "told")), 10)

    def test_it_holds_what_is_forgotten_is_never_told_or_live(self):
        many = 0
        for rng in seeds(150):
            hands = random_hands(rng, 3)
            forgotten = {name: forgettable(hands, name) for name in hands.lots_told()}
            before = hands.lots_told()
            for lots in gone_on(rng, hands, 10):
                for name, lines in forgotten.items():
                    got = [lots[name].patch_of(other) for other in lots[name].names() if other not in before[name]]
                    live = page_of(lots[name]).live()
                    self.assertFalse(set(lines) & set(live))
                    self.assertFalse(any(set(lines) & lines_of(patch) for patch in got))
                    many += len(lines) * len(got)
                before = lots
        self.assertGreater(many, 100)

    def test_it_holds_what_is_kept_is_told_or_live(self):
        for rng in seeds(80):
            hands = random_hands(rng, 3)
            lots = hands.lots_told()
            for name, lot in lots.items():
                for line in page_of(lot).lines():
                    why = why_kept(hands, name, line)
                    if why is None:
                        continue
                    if why[0] == "told":
                        self.assertTrue(any(why[1] in other and why[1] not in lot for other in lots.values()))
                        continue
                    first = why[1][0] if name not in why[1] else name
                    behind = hands.behind_pulls([(first, other) for other in why[1] if other != first])
                    self.assertIn(line, page_of(behind.lots_told()[first]).live())


class Without(unittest.TestCase):
    def test_plain(self):
        page = Page({A0: "x", B0: "y", C0: "z", A1: "w"}, [(A0, B0), (B0, C0), (C0, A1), (B0, A1)], [B0, C0])
        self.assertEqual(page_without(page, [B0, C0]), Page({A0: "x", A1: "w"}, [(A0, A1)], []))
        self.assertEqual(page_without(lines=(["b", 0],), page=page), Page({A0: "x", C0: "z", A1: "w"}, [(A0, C0), (A0, A1), (C0, A1)], [C0]))
        self.assertEqual(page_without(page, []), page)
        self.assertEqual(page_without(Page({}, [], []), []), Page({}, [], []))
        self.assertEqual(page_without(Page({A0: "x"}, [], [A0]), [A0]), Page({}, [], []))

    def test_bad_forget(self):
        page = Page({A0: "x", B0: "y", C0: "z"}, [], [B0, C0])
        for thing in (None, True, 3, "", "ab", {}, {B0: 1}, page):
            self.assertEqual(caught(BadForget, page_without, page, thing).index, 0)
        for thing in JUNK + [3, "", "b0", A0, A1, B0, ["b", 0], ("c", False), ("d", 0)]:
            self.assertEqual(caught(BadForget, page_without, page, [B0, ["c", 0], thing, None]).index, 2)

    def test_on_ring(self):
        page = Page({A0: "x", A1: "w", B0: "y", C0: "z"}, [(A1, B0), (B0, A1), (A0, C0), (C0, A0)], [B0, C0, A0])
        self.assertTrue(exact(caught(OnRing, page_without, page, [B0]).line, A1))
        self.assertEqual(caught(OnRing, page_without, page, [B0, C0]).line, A0)
        self.assertEqual(caught(OnRing, page_without, page, [C0]).line, A0)
        # A ring through what is left out alone does no harm; nor does one through more that is left.
        self.assertEqual(page_without(page, [A0, C0]), Page({A1: "w", B0: "y"}, [(A1, B0), (B0, A1)], [B0]))
        page = Page({A0: "x", A1: "w", B0: "y"}, [(A0, B0), (B0, A1), (A1, A0)], [B0])
        self.assertEqual(page_without(page, [B0]), Page({A0: "x", A1: "w"}, [(A0, A1), (A1, A0)], []))

    def test_by_definition_and_facts(self):
        met = {"ring": 0, "made": 0, "one by one": 0}
        for rng in seeds(400):
            page = random_page(rng, 7, rng.random() < 0.4, (0.3, 0.8))
            lines = [line for line in page.dead() if rng.random() < 0.7]
            rng.shuffle(lines)
            left = [line for line in page.lines() if line not in lines]
            orders = set()
            for line in left:
                through = [pair for pair in page.orders() if pair[0] == line or pair[0] in lines]
                orders |= {(line, end) for end in walks(through, line) if end in left}
            twice = [one for one, other in sorted(orders) if one == other]
            if twice:
                met["ring"] += 1
                self.assertEqual(caught(OnRing, page_without, page, lines).line, twice[0])
                continue
            made = page_without(page, as_lists(lines))
            wanted = Page({line: page.lines()[line] for line in left}, sorted(orders), [line for line in page.dead() if line in left])
            self.assertEqual(made, wanted)
            met["made"] += len(lines) > 1
            self.assertEqual(slow_aheads(made), {pair for pair in slow_aheads(page) if pair[0] in left and pair[1] in left})
            self.assertEqual(reading(made), reading(page))
            if not any((line, line) in slow_aheads(page) for line in lines):
                for line in lines:
                    page = page_without(page, [line])
                self.assertEqual(page, made)
                met["one by one"] += len(lines) > 1
        self.assertGreater(min(met.values()), 10)


class GoingOn(unittest.TestCase):
    def test_going_on_without(self):
        many = 0
        for rng in seeds(150):
            hands = random_hands(rng, 3)
            for name, lot in hands.lots_told().items():
                lines = [line for line in forgettable(hands, name) if rng.random() < 0.8]
                page = page_of(lot)
                ahead = slow_aheads(page)
                if not lines or any((line, line) in ahead for line in page.lines()):
                    continue
                kept = page_without(page, lines)
                for lots in gone_on(rng, hands, 5):
                    now = lots[name]
                    whole = page_of(now)
                    come = [now.patch_of(other) for other in now.names() if other not in lot]
                    words = {**kept.lines(), **{line: words for patch in come for line, words in zip(patch.own_lines(), patch.texts())}}
                    made = Page(words, kept.orders() + [order for patch in come for order in patch.orders()],
                                [line for line in whole.dead() if line in words])
                    self.assertEqual(made, page_without(whole, lines))
                    many += len(come) > 0
        self.assertGreater(many, 50)


if __name__ == "__main__":
    unittest.main()
