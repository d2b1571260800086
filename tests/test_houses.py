"""Points 118 to 124: the house, its deeds, what it tells, turns, back and on again."""

import unittest
from itertools import combinations, permutations

from patchlots.clashes import clashes, keeping_patch, new_clashes
from patchlots.differences import patch_to
from patchlots.errors import (
    BadDeed, BadNames, Lacks, NoCount, NoHand, NoMark, NotRead, PatchError, TakenName,
)
from patchlots.houses import House
from patchlots.lots import Lot, page_of
from patchlots.needs import greatest_without, least_with, sent_to
from patchlots.patches import Patch
from patchlots.reading import reading, text_of
from tests.helping import A, B, C, JUNK, as_lists, caught, exact, house_of_lot, random_deed, random_house, random_short_lot, seeds

A0, A1, B0 = ("a", 0), ("a", 1), ("b", 0)


def house_behind(*deeds):
    house = House()
    for deed in deeds:
        house.do(deed)
    return house


def told(house):
    """All that a house tells of itself, by parts that are compared by ==."""
    return [house.hands(), house.marks(), house.count(), house.deeds()]


def ahead(house):
    """What can be done again, in turn; the house is as it was behind."""
    deeds = []
    while True:
        deed = house.again()
        if deed is None:
            break
        deeds.append(deed)
    for _ in deeds:
        house.undo()
    return deeds


FULL = [("come", "h"), ("record", "h", A), ("record", "h", C), ("mark", "m", "h"), ("come", "k"),
        ("fetch", "k", "h", ["a"]), ("record", "k", B), ("come", "l")]


class Model:
    """A house, told by the words of the document: dicts of hands and marks, to lots."""

    def __init__(self):
        self.hands, self.marks = {}, {}

    def names(self):
        return {name for lot in [*self.hands.values(), *self.marks.values()] for name in lot.names()}

    def refuse(self, deed):
        """The error, with what it holds, that a deed that is one meets, None if it is done."""
        kind = deed[0]
        if kind == "come" and deed[1] in self.hands or kind == "mark" and deed[1] in self.marks:
            return TakenName, (deed[1],)
        needed = {"come": [], "unmark": [], "mark": deed[2:3], "fetch": deed[1:3]}.get(kind, deed[1:2])
        for hand in needed:
            if hand not in self.hands:
                return NoHand, (hand,)
        word = deed[1] if kind == "unmark" else deed[2] if kind == "take" else None
        if word is not None and word not in self.marks:
            return NoMark, (word,)
        if kind in ("record", "type", "settle"):
            name = deed[2].called() if kind == "record" else deed[2]
            if name in self.names():
                return TakenName, (name,)
        lot = self.hands.get(deed[1])
        if kind == "record":
            patches = {name: lot.patch_of(name) for name in lot.names()}
            patches[deed[2].called()] = deed[2]
            lines = {line for patch in patches.values() for line in patch.own_lines()}
            for line in [line for order in deed[2].orders() for line in order] + deed[2].burials():
                if line not in lines:
                    return Lacks, (deed[2].called(), line)
            for other, line in deed[2].backs():
                if other not in patches or line not in patches[other].burials():
                    return Lacks, (deed[2].called(), (other, line))
        if kind == "type" and reading(page_of(lot)) is None:
            return NotRead, (lot,)
        if kind in ("fetch", "shed"):
            there = self.hands[deed[2]] if kind == "fetch" else lot
            for index, name in enumerate(deed[-1] or []):
                if name not in there:
                    return BadNames, (index,)
        return None

    def done(self, deed):
        kind, hands, marks = deed[0], self.hands, self.marks
        hand = deed[1]
        old = hands.get(hand, Lot([])).names()
        if kind == "come":
            hands[hand] = Lot([])
        elif kind == "leave":
            del hands[hand]
        elif kind == "record":
            hands[hand] = hands[hand] | Lot([hands[hand].patch_of(name) for name in hands[hand].names()] + [deed[2]])
        elif kind in ("type", "settle"):
            patch = patch_to(hands[hand], deed[3], deed[2]) if kind == "type" else keeping_patch(hands[hand], deed[2])
            hands[hand] = Lot([hands[hand].patch_of(name) for name in old] + [patch])
        elif kind == "fetch":
            there = hands[deed[2]]
            hands[hand] = hands[hand] | (there if deed[3] is None else least_with(there, deed[3]))
        elif kind == "shed":
            hands[hand] = greatest_without(hands[hand], deed[2])
        elif kind == "mark":
            marks[hand] = hands[deed[2]]
        elif kind == "unmark":
            del marks[hand]
        else:
            hands[hand] = hands[hand] | marks[deed[2]]
        if kind in ("mark", "unmark"):
            return [], []
        new = hands.get(hand, Lot([])).names()
        return sorted(set(new) - set(old)), sorted(set(old) - set(new))


class Deeds(unittest.TestCase):
    def test_each(self):
        house = House()
        self.assertTrue(exact([house.hands(), house.marks(), house.deeds(), house.count()], [{}, {}, [], 0]))
        for deed, got in (
                (("come", "h"), ([], [])), (["record", "h", A], (["a"], [])), (("record", "h", C), (["c"], [])),
                (("mark", "m", "h"), ([], [])), (("come", "k"), ([], [])), (("fetch", "k", "h", ["a"]), (["a"], [])),
                (("fetch", "k", "h", []), ([], [])), (("record", "k", B), (["b"], [])), (("fetch", "k", "h", None), (["c"], [])),
                (("take", "k", "m"), ([], [])), (("shed", "k", ["b"]), ([], ["b"])), (("shed", "k", ("a", "a")), ([], ["a", "c"])),
                (("take", "k", "m"), (["a", "c"], [])), (("unmark", "m"), ([], [])), (("type", "k", "t", ["y", "z"]), (["t"], [])),
                (("settle", "h", "s"), (["s"], [])), (("fetch", "h", "k", ("t", "t")), (["t"], [])), (("leave", "k"), ([], ["a", "c", "t"])),
                (("come", "k"), ([], [])), (("record", "k", Patch("q", [])), (["q"], [])), (("leave", "h"), ([], ["a", "c", "s", "t"])),
                (("record", "k", Patch("a", ["new"])), (["a"], []))):
            self.assertTrue(exact(house.do(deed), got), deed)
        self.assertEqual(house.hands(), {"k": Lot([Patch("q", []), Patch("a", ["new"])])})
        self.assertEqual(house.count(), 22)

    def test_typed_and_settled(self):
        house = house_behind(*FULL, ("type", "k", "t", ["x", "n", "y"]))
        self.assertEqual(house.text_at("k"), ["x", "n", "y"])
        patch = house.lot_at("k").patch_of("t")
        self.assertEqual(len(patch.texts()) + len(patch.burials()), 2)
        house = house_behind(*FULL, ("record", "l", Patch("p", ["x", "y"])), ("settle", "l", "s"))
        self.assertIsNotNone(house.text_at("l"))
        self.assertEqual(house.lot_at("l").patch_of("s").burials(), [])

    def test_a_hand_that_leaves_while_a_mark_keeps_its_patches(self):
        house = house_behind(*FULL, ("leave", "h"), ("shed", "k", ["a"]))
        self.assertEqual(house.who_has("a"), [])
        why = caught(TakenName, house.do, ("record", "l", Patch("a", [])))
        self.assertEqual(why.name, "a")
        self.assertEqual(house.do(("take", "l", "m")), (["a", "c"], []))
        house.do(("shed", "l", ["a"]))
        house.do(("unmark", "m"))
        self.assertEqual(house.do(("record", "l", Patch("a", []))), (["a"], []))

    def test_any_words_may_be_typed(self):
        house = house_behind(*FULL)
        for text in (["", "Y y", "w" * 200], [], ["1.", "hand h"]):
            self.assertEqual(house.do(("type", "k", f"t{house.count()}", text))[1], [])
            self.assertEqual(house.text_at("k"), text)

    def test_hands_and_marks_called_alike(self):
        house = house_behind(*FULL, ("come", "m"), ("mark", "h", "k"))
        self.assertTrue(exact(house.do(("mark", "k", "h")), ([], [])))
        self.assertTrue(exact(house.do(("unmark", "h")), ([], [])))
        self.assertEqual([list(house.hands()), list(house.marks())], [["h", "k", "l", "m"], ["k", "m"]])
        self.assertTrue(exact(house.do(("leave", "k")), ([], ["a", "b"])))
        self.assertEqual([list(house.hands()), list(house.marks())], [["h", "l", "m"], ["k", "m"]])
        self.assertEqual([house.lot_at("h"), house.marks()["k"]], [Lot([A, C]), Lot([A, C])])

    def test_a_deed_that_changes_nothing(self):
        house = house_behind(*FULL)
        hands = house.hands()
        house.do(("fetch", "k", "h", ["a"]))
        house.do(("shed", "k", []))
        self.assertEqual([house.hands(), house.count()], [hands, len(FULL) + 2])
        self.assertEqual(house.undo(), ("shed", "k", ()))

    def test_bad_deed(self):
        house = house_behind(*FULL)
        before = told(house)
        words = ["x", "w" * 200]
        bad = JUNK + [
            3, "", "come", (), [[]], ("come",), ("come", "H"), ("come", "h", "k"), ("Come", "z"), ("go", "h"), ("come", None), ("come", 3),
            ("leave",), ("leave", ["h"]), ("leave", "h", None), ("record", "h"), ("record", "h", None), ("record", A, "h"), ("record", "h", [A]),
            ("record", "h", Lot([A])), ("record", "h", A, A), ("record", 3, A), ("record", "h", "a"), ("type", "h", "t"), ("type", "h", "t", None),
            ("type", "h", "t", "xy"), ("type", "h", "t", ["x", 3]), ("type", "h", "t", ["x\n"]), ("type", "h", "t", ["w" * 201]),
            ("type", "h", "T", words), ("type", "h", ["t"], words), ("type", "h", "t", words, words), ("type", None, "t", words), ("type", "h", "t", {0: "x"}),
            ("type", "h", "t", [["x"]]), ("settle", "h"), ("settle", "h", 3), ("settle", "h", "s", "s"), ("settle", "", "s"), ("fetch", "h", "k"),
            ("fetch", "h", "h", None), ("fetch", "h", "h", ["a"]), ("fetch", "h", "k", "a"), ("fetch", "h", "k", [3]), ("fetch", "h", "k", ["A"]),
            ("fetch", "h", "k", [["a"]]), ("fetch", "h", "k", {"a": 1}), ("fetch", "h", None, None), ("fetch", "h", "k", False), ("fetch", "h", "k", [], []),
            ("fetch", "z", "z", None), ("shed", "h"), ("shed", "h", None), ("shed", "h", "a"), ("shed", "h", [None]), ("shed", "h", ["a", "a b"]),
            ("mark", "m"), ("mark", "m", 3), ("mark", "", "h"), ("mark", "m", "h", "k"), ("unmark",), ("unmark", True), ("unmark", "m", "m"),
            ("take", "h"), ("take", "h", None), ("take", "h", "m", "m"), ("take", ["h"], "m"), {"come": 1, "z": 2}, (("come",), "z"), (None, "z"),
            ("come", "z" * 13), (House(), "z"), ("record", "h", house), [["come", "z"]],
        ]
        for thing in bad:
            self.assertIs(caught(BadDeed, house.do, thing).thing, thing)
        self.assertEqual(told(house), before)

    def test_which_error_comes_first(self):
        house = house_behind(*FULL)
        unread = Patch("p", ["x", "y"])
        house.do(("record", "l", unread))
        cases = [
            (("come", "h"), TakenName, "name", "h"), (("mark", "m", "z"), TakenName, "name", "m"), (("mark", "n", "z"), NoHand, "name", "z"),
            (("leave", "z"), NoHand, "name", "z"), (("record", "z", A), NoHand, "name", "z"), (("record", "h", B), TakenName, "name", "b"),
            (("record", "l", Patch("b", [], [(A0, A1)])), TakenName, "name", "b"), (("type", "z", "a", ["x"]), NoHand, "name", "z"),
            (("type", "l", "a", ["x"]), TakenName, "name", "a"), (("type", "l", "q", ["x"]), NotRead, "thing", house.lot_at("l")),
            (("settle", "z", "a"), NoHand, "name", "z"), (("settle", "h", "b"), TakenName, "name", "b"), (("fetch", "z", "y", ["q"]), NoHand, "name", "z"),
            (("fetch", "h", "y", ["q"]), NoHand, "name", "y"), (("fetch", "h", "k", ["b", "c", "q"]), BadNames, "index", 1), (("shed", "h", ["a", "b"]), BadNames, "index", 1),
            (("shed", "z", ["q"]), NoHand, "name", "z"), (("unmark", "h"), NoMark, "name", "h"), (("take", "z", "q"), NoHand, "name", "z"),
            (("take", "h", "q"), NoMark, "name", "q"), (("fetch", "z", "y", None), NoHand, "name", "z"),
        ]
        house.do(("come", "last"))
        house.undo()
        before = [told(house), ahead(house)]
        for deed, error, name, thing in cases:
            for form in (deed, as_lists(deed)):
                self.assertEqual(getattr(caught(error, house.do, form), name), thing)
        self.assertEqual([told(house), ahead(house)], before)
        self.assertEqual(ahead(house), [("come", "last")])

    def test_lacks(self):
        house = house_behind(("come", "h"), ("come", "k"), ("record", "k", A), ("record", "k", C))
        for patch, thing in ((B, A0), (C, None), (Patch("e", [], [(("e1", 0), ("z", 0))]), ("e1", 0)), (Patch("e", [], burials=[A1]), A1),
                             (Patch("e", [], backs=[("c", A0)]), ("c", A0))):
            if thing is None:
                self.assertEqual(caught(TakenName, house.do, ("record", "h", patch)).name, "c")
            else:
                why = caught(Lacks, house.do, ("record", "h", patch))
                self.assertTrue(exact([why.name, why.thing], [patch.called(), thing]))
        self.assertEqual(house.count(), 4)

    def test_by_a_model(self):
        met = {}
        for rng in seeds(100):
            house, model = House(), Model()
            for number in range(30):
                deed = ("come", "ghk"[number]) if number < 3 else random_deed(rng, house, number)
                before = told(house)
                refused = model.refuse(deed)
                if refused is None:
                    self.assertTrue(exact(house.do(as_lists(deed)), model.done(deed)), deed)
                    self.assertEqual(house.deeds()[-1][0], deed[0])
                else:
                    why = caught(refused[0], house.do, deed)
                    self.assertEqual(tuple(vars(why).values()), refused[1])
                    self.assertEqual(told(house), before)
                self.assertEqual([house.hands(), house.marks()], [model.hands, model.marks])
                key = deed[0], refused and refused[0]
                met[key] = met.get(key, 0) + 1
        for kind in ("come", "leave", "record", "type", "settle", "fetch", "shed", "mark", "unmark", "take"):
            self.assertGreater(met.get((kind, None), 0), 10, kind)
        for kind, error in (("record", Lacks), ("record", TakenName), ("type", NotRead), ("fetch", BadNames), ("shed", BadNames), ("take", NoMark),
                            ("fetch", NoHand), ("settle", TakenName)):
            self.assertGreater(met.get((kind, error), 0), 1, (kind, error))


class Told(unittest.TestCase):
    def test_a_house_without_hands(self):
        house = House()
        self.assertTrue(exact([house.hands(), house.marks(), house.count(), house.deeds(), house.who_has("a")], [{}, {}, 0, [], []]))
        self.assertTrue(exact([house.together([]), house.undo(), house.again()], [([], []), None, None]))
        self.assertEqual([house.at(0), house.copy()], [house, house])
        self.assertEqual(caught(NoHand, house.lot_at, "h").name, "h")
        self.assertEqual(caught(NoMark, house.do, ("unmark", "m")).name, "m")
        self.assertEqual(house.trial(lambda given: given.do(("come", "h"))), ([], []))
        self.assertEqual(house, House())

    def test_hands_and_marks(self):
        house = house_behind(("come", "k"), ("come", "h"), ("mark", "z", "h"), ("mark", "m", "k"))
        self.assertEqual([list(house.hands()), list(house.marks())], [["h", "k"], ["m", "z"]])
        house = house_behind(*FULL)
        self.assertEqual(house.hands(), {"h": Lot([A, C]), "k": Lot([A, B]), "l": Lot([])})
        self.assertEqual(house.marks(), {"m": Lot([A, C])})
        house.hands().clear()
        house.marks().clear()
        house.deeds().clear()
        self.assertEqual([len(house.hands()), len(house.marks()), len(house.deeds())], [3, 1, 8])

    def test_equal_and_nothing_else(self):
        house = house_behind(*FULL)
        other = house_behind(("come", "l"), ("come", "h"), ("record", "h", A), ("come", "k"), ("fetch", "k", "h", None), ("record", "h", C),
                         ("mark", "m", "h"), ("record", "k", B))
        self.assertEqual(house, other)
        self.assertIs(house == other, True)
        for deed in (("come", "z"), ("leave", "l"), ("mark", "n", "l"), ("unmark", "m"), ("shed", "h", ["c"]), ("fetch", "l", "h", None)):
            made = house.copy()
            made.do(deed)
            self.assertIs(made == house, False)
            self.assertIs(made != house, True)
        for thing in JUNK + [house.hands(), told(house)]:
            self.assertIs(house == thing, False)
        self.assertEqual(House(), House())
        self.assertIs(House() == {}, False)

    def test_at_hands(self):
        house = house_behind(*FULL)
        self.assertEqual(house.lot_at("h"), Lot([A, C]))
        self.assertTrue(exact([house.text_at("h"), house.text_at(hand="k"), house.text_at("l")], [["y"], ["x", "m", "y"], []]))
        self.assertTrue(exact(house.clashes_at("k"), []))
        house.do(("record", "k", Patch("q", ["z"])))
        self.assertIsNone(house.text_at("k"))
        self.assertTrue(exact(house.clashes_at(hand="k"), [("apart", A0, ("q", 0)), ("apart", A1, ("q", 0)), ("apart", B0, ("q", 0))]))

    def test_who_has(self):
        house = house_behind(*FULL)
        self.assertTrue(exact([house.who_has("a"), house.who_has(name="c"), house.who_has("z")], [["h", "k"], ["h"], []]))
        for thing in JUNK + [3, "", ["a"], ("a",), A]:
            self.assertTrue(exact(house.who_has(thing), []))

    def test_no_hand(self):
        house = house_behind(*FULL)
        calls = [house.lot_at, house.text_at, house.clashes_at, lambda hand: house.news(hand, None), lambda hand: house.news("h", hand),
                 lambda hand: house.would(hand, None), lambda hand: house.would("h", hand), lambda hand: house.calm_turns(hand, None),
                 lambda hand: house.stuck_turns(hand, None), lambda hand: house.together(["h", hand, None]),
                 lambda hand: house.calm_turns("l", ["h", hand, None]), lambda hand: house.stuck_turns("l", ["h", hand, None])]
        for call in calls:
            for thing in JUNK + [3, "", "z", "m", ["h"], ("h",)]:
                self.assertIs(caught(NoHand, call, thing).name, thing)
        for call in (house.together, lambda thing: house.calm_turns("l", thing), lambda thing: house.stuck_turns("l", thing)):
            for thing in (None, True, 3, "", "hk", {}, {"h": 1}, house):
                self.assertIs(caught(NoHand, call, thing).name, thing)
            self.assertEqual(caught(NoHand, call, ["h", "k", "h"]).name, "h")
        for call in (house.calm_turns, house.stuck_turns):
            self.assertEqual(caught(NoHand, call, "h", ["k", "h", None]).name, "h")

    def test_news_and_would(self):
        house = house_behind(*FULL)
        self.assertTrue(exact(house.news("l", "h"), ["a", "c"]))
        self.assertTrue(exact(house.news(other="k", hand="h"), ["b"]))
        self.assertTrue(exact(house.news("h", "h"), []))
        self.assertTrue(exact(house.would("h", "k"), (["m", "y"], [])))
        self.assertTrue(exact(house.would(other="h", hand="h"), (["y"], [])))
        house.do(("record", "l", Patch("q", ["z"])))
        before = told(house)
        self.assertTrue(exact(house.would("l", "h"), (None, [("apart", A1, ("q", 0))])))
        self.assertEqual(told(house), before)

    def test_together(self):
        house = house_behind(*FULL)
        self.assertTrue(exact(house.together(["h", "k"]), (["m", "y"], [])))
        self.assertTrue(exact(house.together(hands=()), ([], [])))
        house.do(("record", "l", Patch("q", ["z"])))
        self.assertTrue(exact(house.together(["l", "h"]), (None, [("apart", A1, ("q", 0))])))

    def test_by_definition(self):
        for rng in seeds(40):
            house = random_house(rng)
            hands = house.hands()
            for hand, lot in hands.items():
                self.assertEqual(house.lot_at(hand), lot)
                self.assertTrue(exact(house.text_at(hand), text_of(page_of(lot))))
                self.assertTrue(exact(house.clashes_at(hand), clashes(page_of(lot))))
                for other, more in hands.items():
                    self.assertTrue(exact(house.news(hand, other), sent_to(lot, more)))
                    self.assertTrue(exact(house.would(hand, other), (text_of(page_of(lot | more)), new_clashes(lot, more))))
                    if hand != other:
                        tried = house.copy()
                        tried.do(("fetch", hand, other, None))
                        self.assertEqual(tried.text_at(hand), house.would(hand, other)[0])
            some = rng.sample(list(hands), rng.randint(0, len(hands)))
            whole = Lot([])
            for hand in some:
                whole = whole | hands[hand]
            self.assertTrue(exact(house.together(some), (text_of(page_of(whole)), clashes(page_of(whole)))))


class Turns(unittest.TestCase):
    def reads(self, house, hand, others):
        lot = house.lot_at(hand)
        for other in others:
            lot = lot | house.lot_at(other)
        return reading(page_of(lot)) is not None

    def calm(self, house, hand, order):
        return all(self.reads(house, hand, order[:count]) for count in range(1, len(order) + 1))

    def slow_calm(self, house, hand, others):
        for order in permutations(sorted(others)):
            if self.calm(house, hand, order):
                return list(order)
        return None

    def slow_stuck(self, house, hand, others):
        found = [list(some) for count in range(len(others) + 1) for some in combinations(sorted(others), count)
                 if any(self.calm(house, hand, order) for order in permutations(some))]
        return None if sorted(others) in found else found

    def test_plain(self):
        x, y, z = Patch("x", ["1"]), Patch("y", ["2"], [(("x", 0), ("y", 0))]), Patch("z", ["3"], [(("y", 0), ("z", 0))])
        house = house_behind(("come", "h"), ("come", "k"), ("come", "l"), ("record", "k", x), ("fetch", "l", "k", None), ("record", "l", y),
                         ("record", "l", z))
        self.assertTrue(exact(house.calm_turns("h", ["l", "k"]), ["k", "l"]))
        self.assertIsNone(house.stuck_turns(others=("l", "k"), hand="h"))
        self.assertTrue(exact([house.calm_turns("h", []), house.stuck_turns("h", ())], [[], None]))
        q = Patch("q", ["4"])
        house.do(("record", "h", q))
        # It does not read alone, or with one of both: but it is not asked whether it reads ahead of all.
        house.do(("record", "h", Patch("r", ["5"])))
        self.assertIsNone(house.calm_turns(hand="h", others=["k"]))
        self.assertTrue(exact(house.stuck_turns("h", ["l", "k"]), [[]]))
        house.do(("type", "k", "t", []))
        self.assertEqual(house.calm_turns("l", ["k"]), ["k"])

    def test_stuck_turns_in_the_order_of_choices(self):
        house = house_behind(("come", "h"))
        for hand in ("p", "o", "q"):
            house.do(("come", hand))
            house.do(("record", hand, Patch(hand, [hand])))
        self.assertTrue(exact(house.stuck_turns("h", ["q", "o", "p"]), [[], ["o"], ["p"], ["q"]]))
        self.assertIsNone(house.calm_turns("h", ["q", "o", "p"]))

    def test_by_definition_and_it_holds(self):
        met = {}
        for rng in seeds(120):
            house = house_of_lot(rng, random_short_lot(rng, 5, 3, 0.1, 0.5), ["g", "h", "k", "l"])
            hands = list(house.hands())[rng.choice([0, 1]):]
            hand = rng.choice(hands)
            others = rng.sample([other for other in hands if other != hand], rng.randint(0, len(hands) - 1))
            calm, stuck = house.calm_turns(hand, others), house.stuck_turns(hand, others)
            self.assertTrue(exact(calm, self.slow_calm(house, hand, others)))
            self.assertTrue(exact(stuck, self.slow_stuck(house, hand, others)))
            self.assertEqual([calm, stuck].count(None), 1)
            lots = []
            for order in permutations(others):
                tried = house.copy()
                for other in order:
                    tried.do(("fetch", hand, other, None))
                lots.append(tried.lot_at(hand))
            self.assertTrue(all(lot == lots[0] for lot in lots))
            if len(others) > 1:
                kind = "calm" if stuck is None else "some" if len(stuck) > 1 else "none"
                met[kind] = met.get(kind, 0) + 1
                met["unlike"] = met.get("unlike", 0) + (calm not in (None, sorted(others)))
        self.assertGreater(min(met[kind] for kind in ("calm", "some", "none", "unlike")), 1)


class BackAndOn(unittest.TestCase):
    def test_back_and_on(self):
        house = house_behind(*FULL)
        states = []
        for deed in reversed(FULL):
            states.append([house.hands(), house.marks()])
            self.assertTrue(exact(house.undo(), tuple(tuple(part) if isinstance(part, list) else part for part in deed)))
        self.assertEqual(house, House())
        self.assertTrue(exact([house.undo(), house.count(), house.deeds()], [None, 0, []]))
        for deed, state in zip(FULL, reversed(states)):
            self.assertEqual(list(house.again()), [tuple(part) if isinstance(part, list) else part for part in deed])
            self.assertEqual([house.hands(), house.marks()], state)
        self.assertIsNone(house.again())
        self.assertEqual(house, house_behind(*FULL))

    def test_a_new_deed_ends_what_can_be_done_again(self):
        house = house_behind(*FULL)
        house.undo()
        house.undo()
        caught(NoHand, house.do, ("leave", "z"))
        caught(BadDeed, house.do, None)
        self.assertEqual(ahead(house), [FULL[-2], FULL[-1]])
        house.do(("shed", "k", ()))
        self.assertIsNone(house.again())
        self.assertEqual(house.count(), 7)

    def test_deeds_are_tuples_throughout(self):
        house = House()
        for deed in (["come", "h"], ["come", "k"], ["type", "h", "q", ["x", "y"]], ["fetch", "k", "h", ["q"]], ["shed", "k", ["q"]], ["fetch", "k", "h", None]):
            house.do(deed)
            if isinstance(deed[-1], list):
                deed[-1].append("more")
            deed.append("more")
        wanted = [("come", "h"), ("come", "k"), ("type", "h", "q", ("x", "y")), ("fetch", "k", "h", ("q",)), ("shed", "k", ("q",)),
                  ("fetch", "k", "h", None)]
        self.assertTrue(exact(house.deeds(), wanted))
        again = house_behind(*house.deeds())
        self.assertEqual(told(again), told(house))

    def test_at(self):
        house = house_behind(*FULL)
        house.undo()
        for number in range(8):
            made = house.at(number)
            self.assertEqual(told(made), told(house_behind(*FULL[:number])))
            self.assertIsNone(made.again())
            made.do(("come", "z"))
            made.undo()
            made.undo()
        self.assertEqual(house.at(number=7), house)
        self.assertEqual(ahead(house), [FULL[-1]])
        for thing in JUNK + [8, -1, "3", "", [3], (3,)]:
            self.assertIs(caught(NoCount, house.at, thing).number, thing)

    def test_copy(self):
        house = house_behind(*FULL)
        house.undo()
        other = house.copy()
        self.assertEqual([told(other), ahead(other)], [told(house), ahead(house)])
        other.again()
        other.do(("leave", "k"))
        house.do(("come", "z"))
        self.assertEqual(told(house), told(house_behind(*FULL[:-1], ("come", "z"))))
        self.assertEqual(told(other), told(house_behind(*FULL, ("leave", "k"))))
        other.undo()
        other.undo()
        self.assertEqual(other.count(), 7)
        self.assertEqual(ahead(other), [FULL[-1], ("leave", "k")])

    def test_trial(self):
        house = house_behind(*FULL)
        house.undo()
        before, again = told(house), ahead(house)

        def work(given):
            self.assertIs(given, house)
            given.again()
            given.do(("leave", "h"))
            return [given.count()]

        self.assertEqual(house.trial(work), [9])
        self.assertEqual([told(house), ahead(house)], [before, again])
        self.assertIsNone(house.trial(work=lambda given: None))
        self.assertEqual(house.trial(lambda given: given.undo()), FULL[-2])
        self.assertEqual([told(house), ahead(house)], [before, again])

    def test_a_trial_within_a_trial_that_ends_by_an_error(self):
        house = house_behind(*FULL)
        house.undo()
        before, again = told(house), ahead(house)
        seen = []

        def inner(given):
            given.do(("leave", "k"))
            given.undo()
            given.undo()
            given.do(("leave", "nobody"))

        def outer(given):
            given.do(("come", "z"))
            seen.append((told(given), ahead(given)))
            try:
                given.trial(inner)
            except NoHand as why:
                seen.append(why.name)
            seen.append((told(given), ahead(given)))
            raise KeyError("out")

        with self.assertRaises(KeyError):
            house.trial(outer)
        self.assertEqual(seen[1], "nobody")
        self.assertEqual(seen[0], seen[2])
        self.assertEqual(seen[0][0], told(house_behind(*FULL[:-1], ("come", "z"))))
        self.assertEqual([told(house), ahead(house)], [before, again])
        self.assertIs(caught(BadDeed, house.trial, lambda given: given.do(seen)).thing, seen)

    def test_by_lists_of_states(self):
        for rng in seeds(40):
            house = House()
            states, done, undone = [({}, {})], [], []
            for number in range(60):
                kind = rng.random()
                if kind < 0.2:
                    deed = house.undo()
                    self.assertEqual(deed, done[-1] if done else None)
                    if done:
                        undone.append((done.pop(), states.pop()))
                elif kind < 0.35:
                    deed = house.again()
                    self.assertEqual(deed, undone[-1][0] if undone else None)
                    if undone:
                        deed, state = undone.pop()
                        done.append(deed)
                        states.append(state)
                else:
                    deed = random_deed(rng, house, number)
                    try:
                        house.do(deed)
                    except PatchError:
                        pass
                    else:
                        done.append(deed)
                        states.append((house.hands(), house.marks()))
                        undone = []
                self.assertEqual([house.hands(), house.marks()], list(states[-1]))
                self.assertEqual([house.count(), house.deeds()], [len(done), done])
                number = rng.randint(0, len(done))
                self.assertEqual([house.at(number).hands(), house.at(number).marks()], list(states[number]))


if __name__ == "__main__":
    unittest.main()
