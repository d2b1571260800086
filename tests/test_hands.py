"""Points 104, 105, 106 and 110: hands, pulls, what can come, live, die, or fail to read."""

import unittest
from itertools import combinations, permutations

from patchlots.coming import can_die, can_fail, can_live
from patchlots.errors import BadHands, BadPull, NoHand, NoLine, Parted
from patchlots.hands import Hands, comes_to, enough_pulls
from patchlots.lots import Lot, page_of
from patchlots.patches import Patch
from patchlots.reading import is_ahead, reading
from tests.helping import A, B, C, D, JUNK, as_lists, caught, exact, random_hands, seeds

A0, A1, B0 = ("a", 0), ("a", 1), ("b", 0)
HANDS = Hands({"h": Lot([A, C]), "k": Lot([A]), "b": Lot([D, A, C])})


def lots_in(hands):
    return {name: lot.names() for name, lot in hands.lots_told().items()}


def slow_reached(hands, name):
    """All name lists that a hand comes to by pulls, each with the least number of pulls."""
    names = list(hands.lots_told())
    start = tuple(frozenset(hands.lots_told()[hand].names()) for hand in names)
    found, level, pulls = {}, {start}, 0
    seen = set()
    while level:
        for state in level:
            found.setdefault(state[names.index(name)], pulls)
        seen |= level
        level = {tuple(state[i] | state[j] if at == i else told for at, told in enumerate(state))
                 for state in level for i, j in permutations(range(len(names)), 2)} - seen
        pulls += 1
    return found


def gatherings(hands, name):
    """All gatherings in THE ORDER OF CHOICES, each with the names of its lot."""
    lots = hands.lots_told()
    others = [hand for hand in lots if hand != name]
    for count in range(len(others) + 1):
        for some in combinations(others, count):
            yield list(some), sorted(set(lots[name].names()).union(*[lots[hand].names() for hand in some]))


def page_at(hands, names):
    return page_of(Lot([hands.whole_lot().patch_of(name) for name in names]))


class Hand(unittest.TestCase):
    def test_told(self):
        self.assertEqual(list(HANDS.lots_told()), ["b", "h", "k"])
        self.assertEqual(HANDS.lots_told(), {"h": Lot([A, C]), "k": Lot([A]), "b": Lot([A, C, D])})
        self.assertEqual(HANDS.whole_lot(), Lot([A, C, D]))
        self.assertEqual(Hands(kept={"k": Lot([])}).whole_lot(), Lot([]))

    def test_bad_hands(self):
        for thing in (None, True, 3, "", "a", [], [("a", Lot([]))], {}, Lot([]), HANDS):
            self.assertIs(caught(BadHands, Hands, thing).thing, thing)
        for key in ("A", "", 3, None, True, ("a", 0), ("a",), "a" * 13):
            self.assertIs(caught(BadHands, Hands, {"z": Lot([A]), key: Lot([]), "a": 3}).thing, key)
        for lot in JUNK + [A, [A], {"a": A}]:
            if not isinstance(lot, Lot):
                self.assertEqual(caught(BadHands, Hands, {"z": Lot([]), "k": lot, "a": 3}).thing, "k")

    def test_parted(self):
        def lot(*names):
            return Lot([Patch(name.lower(), [name]) for name in names])

        self.assertEqual(caught(Parted, Hands, {"h": lot("A"), "k": lot("a")}).name, "a")
        self.assertEqual(caught(Parted, Hands, {"h": lot("d", "b"), "k": lot("D"), "l": lot("a"), "m": lot("A", "b")}).name, "a")
        self.assertEqual(caught(Parted, Hands, {"h": lot("d"), "k": lot("c"), "l": lot("c", "D"), "m": lot("C", "D")}).name, "c")
        self.assertEqual(caught(BadHands, Hands, {"h": lot("A"), "k": lot("a"), "l": 3}).thing, "l")

    def test_behind_pulls(self):
        behind = HANDS.behind_pulls([("k", "h"), ["h", "b"]])
        self.assertEqual(lots_in(behind), {"b": ["a", "c", "d"], "h": ["a", "c", "d"], "k": ["a", "c"]})
        self.assertEqual(HANDS.behind_pulls(pulls=(("h", "b"), ("k", "h"))).lots_told()["k"], Lot([A, C, D]))
        self.assertEqual(HANDS.behind_pulls([]), HANDS)
        # A pull that brings nothing.
        self.assertEqual(HANDS.behind_pulls([("b", "k")]), HANDS)
        self.assertEqual(lots_in(HANDS), {"b": ["a", "c", "d"], "h": ["a", "c"], "k": ["a"]})

    def test_bad_pull(self):
        for thing in (None, True, 3, "", "hk", {}, HANDS):
            self.assertEqual(caught(BadPull, HANDS.behind_pulls, thing).index, 0)
        for thing in JUNK + [3, "", "hk", ("h", "h"), ("h",), ("h", "k", "b"), ("h", "z"), ("z", "h"), ("h", None), (["h"], "k"), ("h", ["k"]), ("h", {}), {"h": 0, "k": 1}]:
            self.assertEqual(caught(BadPull, HANDS.behind_pulls, [("h", "k"), ["k", "b"], thing, None]).index, 2)
        self.assertEqual(caught(BadPull, Hands({"h": Lot([])}).behind_pulls, [("h", "h")]).index, 0)

    def test_equal_and_nothing_else(self):
        self.assertEqual(Hands({"h": Lot([A, C]), "k": Lot([])}), Hands({"k": Lot([]), "h": Lot([C, A])}))
        for other in (Hands({"h": Lot([A, C])}), Hands({"h": Lot([A, C]), "k": Lot([A])}), Hands({"h": Lot([A, C]), "l": Lot([])})):
            self.assertIs(Hands({"h": Lot([A, C]), "k": Lot([])}) == other, False)
        for other in JUNK + [HANDS.lots_told(), Lot([A, C, D])]:
            self.assertIs(HANDS == other, False)
            self.assertIs(HANDS != other, True)

    def test_later_changes_have_no_effect(self):
        kept = {"h": Lot([A])}
        hands = Hands(kept)
        kept["k"] = Lot([A])
        hands.lots_told().clear()
        self.assertEqual(hands, Hands({"h": Lot([A])}))


class Coming(unittest.TestCase):
    def test_comes_to(self):
        self.assertTrue(exact(comes_to(HANDS, "k"), [(["a"], []), (["a", "c", "d"], ["b"]), (["a", "c"], ["h"])]))
        self.assertTrue(exact(comes_to(name="b", hands=HANDS), [(["a", "c", "d"], [])]))
        self.assertTrue(exact(comes_to(Hands({"h": Lot([])}), "h"), [([], [])]))

    def test_errors(self):
        for thing in JUNK + [3, "", "z", ["h"], ("h",), A0]:
            for call in (comes_to, can_fail, lambda hands, name: can_die(hands, name, None)):
                self.assertIs(caught(NoHand, call, HANDS, thing).name, thing)
        for thing in JUNK + [3, "", "a0", ("a", 2), B0, ("a", False)]:
            self.assertIs(caught(NoLine, can_live, HANDS, thing).line, thing)
            self.assertIs(caught(NoLine, can_die, HANDS, "h", thing).line, thing)

    def test_by_definition_and_it_holds(self):
        many = 0
        for rng in seeds(150):
            hands = random_hands(rng)
            for name in hands.lots_told():
                told = comes_to(hands, name)
                wanted = {}
                for some, names in gatherings(hands, name):
                    wanted.setdefault(tuple(names), some)
                self.assertTrue(exact(told, [(list(names), some) for names, some in wanted.items()]))
                reached = slow_reached(hands, name)
                self.assertEqual({frozenset(names) for names, _ in told}, set(reached))
                for names, some in told:
                    self.assertGreaterEqual(reached[frozenset(names)], len(some))
                    behind = hands.behind_pulls([(name, other) for other in some])
                    self.assertEqual(behind.lots_told()[name].names(), names)
                many += len(told) > 3
        self.assertGreater(many, 20)

    def test_live_dead_and_read(self):
        self.assertTrue(exact(can_live(HANDS, A0), ["b"]))
        self.assertTrue(exact(can_live(line=["a", 1], hands=HANDS), ["b"]))
        self.assertTrue(exact(can_die(HANDS, "k", A0), ["h"]))
        self.assertTrue(exact(can_die(line=A0, name="h", hands=HANDS), []))
        self.assertIsNone(can_die(HANDS, "b", A0))
        self.assertIsNone(can_fail(HANDS, "k"))
        # A line that no hands together see live.
        hands = Hands({"h": Lot([A, C]), "k": Lot([A, C, B])})
        self.assertIsNone(can_live(hands, A0))
        hands = Hands({"h": Lot([A]), "k": Lot([A, Patch("q", ["z"])]), "l": Lot([A, Patch("r", [], [(A1, A0)])])})
        self.assertTrue(exact(can_fail(name="h", hands=hands), ["k"]))
        self.assertTrue(exact(can_fail(hands, "k"), []))
        self.assertEqual(can_fail(Hands({"h": Lot([A]), "l": Lot([A, Patch("r", [], [(A1, A0)])])}), "h"), ["l"])

    def test_live_dead_and_read_by_definition(self):
        met = {}
        for rng in seeds(80):
            hands = random_hands(rng)
            lots = hands.lots_told()
            lines = list(page_of(hands.whole_lot()).lines())
            some_hands = [list(some) for count in range(1, len(lots) + 1) for some in combinations(lots, count)]
            for line in rng.sample(lines, min(3, len(lines))):
                living = [some for some in some_hands
                          if line in page_at(hands, sorted(set().union(*[lots[hand].names() for hand in some]))).live()]
                self.assertTrue(exact(can_live(hands, as_lists(line)), living[0] if living else None))
                met["live", bool(living)] = met.get(("live", bool(living)), 0) + 1
                for name in lots:
                    dying = [some for some, names in gatherings(hands, name) if line in page_at(hands, names).dead()]
                    self.assertTrue(exact(can_die(hands, name, line), dying[0] if dying else None))
                    met["die", bool(dying)] = met.get(("die", bool(dying)), 0) + 1
            for name in lots:
                failing = [some for some, names in gatherings(hands, name) if reading(page_at(hands, names)) is None]
                self.assertTrue(exact(can_fail(hands, name), failing[0] if failing else None))
                met["fail", bool(failing)] = met.get(("fail", bool(failing)), 0) + 1
        self.assertGreater(min(met.values()), 8)
        self.assertEqual(len(met), 6)

    def test_lines_that_come_with_a_later_pull(self):
        far = Patch("f", ["z"], [(A1, ("f", 0))])
        hands = Hands({"h": Lot([]), "k": Lot([A]), "m": Lot([A, far]), "n": Lot([A, far, Patch("g", [], burials=[("f", 0)])])})
        self.assertTrue(exact(can_die(hands, "h", ("f", 0)), ["n"]))
        self.assertTrue(exact(can_live(hands, ("f", 0)), ["m"]))
        self.assertIsNone(can_die(hands, "h", A0))
        self.assertEqual([names for names, _ in comes_to(hands, "h")], [[], ["a"], ["a", "f"], ["a", "f", "g"]])

    def test_facts_live_dead_and_live_again(self):
        ring = Lot([A, C, Patch("q", ["z"], [(A0, ("q", 0))])])
        hands = Hands({"h": Lot([A]), "k": ring, "l": Lot([A, C, D, B, Patch("q", ["z"], [(A0, ("q", 0))]),
                                                           Patch("r", [], [(B0, ("q", 0)), (("q", 0), A1)])])})
        pages = [page_of(hands.behind_pulls([("h", "k"), ("h", "l")][:count]).lots_told()["h"]) for count in range(3)]
        self.assertEqual([A0 in page.live() for page in pages], [True, False, True])
        self.assertEqual([reading(page) is not None for page in pages], [True, False, True])

    def test_facts_what_is_ahead_stays_ahead(self):
        again = 0
        for rng in seeds(60):
            hands = random_hands(rng)
            names = list(hands.lots_told())
            if len(names) == 1:
                continue
            pulls = [rng.sample(names, 2) for _ in range(4)]
            pages = [page_of(hands.behind_pulls(pulls[:count]).lots_told()[names[0]]) for count in range(5)]
            for before, page in zip(pages, pages[1:]):
                for one in before.lines():
                    for other in before.lines():
                        if is_ahead(before, one, other):
                            again += 1
                            self.assertTrue(is_ahead(page, one, other))
        self.assertGreater(again, 50)


class Pulls(unittest.TestCase):
    def fewest(self, hands):
        """The least number of pulls behind which all have the whole."""
        lots = hands.lots_told()
        whole = frozenset(hands.whole_lot().names())
        level, count, seen = {tuple(frozenset(lot.names()) for lot in lots.values())}, 0, set()
        while tuple([whole] * len(lots)) not in level:
            seen |= level
            level = {tuple(state[i] | state[j] if at == i else told for at, told in enumerate(state))
                     for state in level for i, j in permutations(range(len(lots)), 2)} - seen
            count += 1
        return count

    def test_plain(self):
        self.assertEqual(enough_pulls(Hands({"h": Lot([A])})), [])
        self.assertEqual(enough_pulls(Hands({"h": Lot([A]), "k": Lot([A])})), [])
        self.assertTrue(exact(enough_pulls(hands=Hands({"h": Lot([A]), "k": Lot([])})), [("k", "h")]))
        pulls = enough_pulls(HANDS)
        self.assertEqual(sorted(pulls), [("h", "b"), ("k", "b")])

    def test_by_definition_and_facts(self):
        counts = {}
        for rng in seeds(60):
            hands = random_hands(rng)
            pulls = enough_pulls(hands)
            self.assertEqual(len(pulls), self.fewest(hands))
            behind = hands.behind_pulls(pulls)
            self.assertTrue(all(lot == hands.whole_lot() for lot in behind.lots_told().values()))
            self.assertTrue(exact(pulls, enough_pulls(Hands(hands.lots_told()))))
            names = list(hands.lots_told())
            if len(names) > 1:
                more = list(pulls)
                more.insert(rng.randint(0, len(pulls)), tuple(rng.sample(names, 2)))
                self.assertTrue(all(lot == hands.whole_lot() for lot in hands.behind_pulls(more).lots_told().values()))
            counts[len(pulls)] = counts.get(len(pulls), 0) + 1
        self.assertGreater(len(counts), 4)

    def test_where_each_has_one_of_its_own(self):
        for many in range(1, 5):
            hands = Hands({f"h{number}": Lot([Patch(f"p{number}", [])]) for number in range(many)})
            self.assertEqual(len(enough_pulls(hands)), 2 * many - 2)
            names = list(hands.lots_told())
            to_one = [(names[0], name) for name in names[1:]] + [(name, names[0]) for name in names[1:]]
            self.assertTrue(all(lot == hands.whole_lot() for lot in hands.behind_pulls(to_one).lots_told().values()))


if __name__ == "__main__":
    unittest.main()
