"""What several test files use: any objects, random things, and slow oracles by the definitions."""

import random
from itertools import combinations, permutations, product

from patchlots.bares import Bare
from patchlots.errors import PatchError
from patchlots.hands import Hands
from patchlots.histories import histories
from patchlots.houses import House
from patchlots.lots import Lot, page_of
from patchlots.pages import Page
from patchlots.patches import Patch
from patchlots.places import made_by
from patchlots.trees import FileTree

A = Patch("a", ["x", "y"], [(("a", 0), ("a", 1))])
B = Patch("b", ["m"], [(("a", 0), ("b", 0)), (("b", 0), ("a", 1))])
C = Patch("c", [], burials=[("a", 0)])
D = Patch("d", [], backs=[("c", ("a", 0))])

# Things that are no line, order, name, words, patch, change or list of some of these, nor empty.
JUNK = [
    None, True, False, -1, 10 ** 17, "A", "1a", "a.b", "a" * 13, "\n", "w" * 201 + "\n",
    {"a": 1}, {("a", 0): "x"}, [None], [[["a", 0]]], ["a", True], ["a", 0, 0], ("A", 0), ("a", -1),
    (("a", 0),), [("a", 0), ("a", 0), 3], Page({}, [], []), Patch("a", []), Lot([]), Bare([], [], []),
    [{}], (Page({}, [], []), 0), [[], []], FileTree({}, {}, []), [FileTree({}, {}, [])],
    Hands({"a": Lot([])}), House(), [House()],
]


def caught(error, call, *args, **named):
    """The error of just this class that a call raises."""
    try:
        told = call(*args, **named)
    except error as why:
        if type(why) is not error:
            raise AssertionError(f"{type(why).__name__} instead of {error.__name__}") from why
        return why
    raise AssertionError(f"{told!r} instead of {error.__name__}")


def exact(told, wanted):
    """Whether two values are the same, of the same kinds at every depth."""
    if type(told) is not type(wanted):
        return False
    if isinstance(told, (list, tuple)):
        return len(told) == len(wanted) and all(exact(a, b) for a, b in zip(told, wanted))
    if isinstance(told, dict):
        return exact(list(told.items()), list(wanted.items()))
    return told == wanted


def as_lists(thing):
    """The thing with lists for tuples, at every depth (keys of dicts excepted)."""
    if isinstance(thing, (list, tuple)):
        return [as_lists(item) for item in thing]
    return thing


def as_tuples(thing):
    """The thing with tuples for lists, at every depth."""
    if isinstance(thing, (list, tuple)):
        return tuple(as_tuples(item) for item in thing)
    return thing


def random_page(rng, most=6, rings=True, dying=(0, 0.3)):
    """A page of lines of a few names, their orders along a hidden row if no rings may be."""
    lines = [(rng.choice("abc"), rng.randrange(4)) for _ in range(rng.randint(0, most))]
    lines = list(dict.fromkeys(lines))
    rng.shuffle(lines)
    pairs = list(permutations(lines, 2)) if rings else list(combinations(lines, 2))
    share = rng.choice([0.1, 0.2, 0.4, 0.7])
    orders = [pair for pair in pairs if rng.random() < (share / 2 if rings else share)]
    dead = [line for line in lines if rng.random() < rng.choice(dying)]
    return Page({line: rng.choice(["", "x", "y z"]) for line in lines}, orders, dead)


def random_patches(rng, count):
    """Patches that make a lot, each needing some of the earlier ones."""
    names = rng.sample(["a", "b", "c1", "d", "e9", "f", "g", "h", "i", "j"], count)
    patches = []
    for name in names:
        before = [line for patch in patches for line in patch.own_lines()]
        texts = [rng.choice(["", "x", "y y", "order a.0"]) for _ in range(rng.choice([0, 0, 1, 2]))]
        lines = before + [(name, number) for number in range(len(texts))]
        pairs = list(permutations(lines, 2))
        orders = rng.sample(pairs, min(len(pairs), rng.choice([0, 0, 1, 2, 3])))
        burials = [line for line in before if rng.random() < 0.2]
        backs = [(patch.called(), line) for patch in patches for line in patch.burials()
                 if rng.random() < 0.3]
        patches.append(Patch(name, texts, orders, burials, backs))
    rng.shuffle(patches)
    return patches


def random_lot(rng, most=6):
    return Lot(random_patches(rng, rng.randint(0, most)))


def random_short_lot(rng, most=5, lines=3, wild=0.3, putting=0.25):
    """A lot of few lines: a ground that puts most of them, and patches that order, bury and undo."""
    ground = Patch("g", ["w"] * rng.randint(1, lines))
    patches = [ground]
    for name in rng.sample("abcdefhij", rng.randint(1, most)):
        own = [(name, 0)] if rng.random() < putting else []
        known = [line for patch in patches for line in patch.own_lines()] + own
        pairs = list(permutations(known, 2)) if rng.random() < wild else list(combinations(known, 2))
        orders = rng.sample(pairs, min(len(pairs), rng.choice([0, 1, 1, 2, 3])))
        burials = [line for line in known if line not in own and rng.random() < 0.15]
        backs = [(patch.called(), line) for patch in patches for line in patch.burials()
                 if rng.random() < 0.4]
        patches.append(Patch(name, [name] * len(own), orders, burials, backs))
    return Lot(patches)


def slow_parts(lot):
    """The names of all parts, in THE ORDER OF CHOICES."""
    return [list(names) for count in range(len(lot) + 1) for names in combinations(lot.names(), count)
            if all(set(lot.patch_of(name).needs()) <= set(names) for name in names)]


def page_of_part(lot, names):
    return page_of(Lot([lot.patch_of(name) for name in names]))


def least_in(parts):
    return [names for names in parts if not any(set(other) < set(names) for other in parts)]


def greatest_in(parts):
    return [names for names in parts if not any(set(other) > set(names) for other in parts)]


def random_hands(rng, most=4):
    """Hands with parts of one lot."""
    lot = random_lot(rng, 6) if rng.random() < 0.4 else random_short_lot(rng, 5, 3, 0.4, 0.4)
    parts = slow_parts(lot)
    names = rng.sample(["h", "k", "m", "z9"], rng.randint(1, most))
    return Hands({name: Lot([lot.patch_of(other) for other in rng.choice(parts)]) for name in names})


def random_new_patch(rng, name, known):
    """A patch that tells its own lines and some of these."""
    own = [(name, number) for number in range(rng.choice([0, 1, 1, 2]))]
    pairs = list(combinations(known + own, 2)) if rng.random() < 0.9 else list(permutations(known + own, 2))
    return Patch(name, [rng.choice("xyz") for _ in own], rng.sample(pairs, min(len(pairs), rng.choice([0, 1, 2, 3]))),
                 [line for line in known if rng.random() < 0.15])


def random_deed(rng, house, number, kinds="cclrrrrttssffffddmmmukkk"):
    """A deed, tuples throughout, that a house does or refuses, for what is there or not there."""
    hands = house.hands()
    some = list(hands) + ["g", "h", "k", "l"][:rng.choice([1, 1, 4])]
    hand, other = rng.choice(some), rng.choice(some)
    word = rng.choice(["m", "n", "o"])
    lot = hands.get(hand, Lot([]))
    name = f"p{number}" if rng.random() < 0.9 else rng.choice(lot.names() + ["p0", "p1"])
    kind = rng.choice(kinds)
    if kind == "c":
        return ("come", rng.choice(["g", "h", "k", "l", "h1"]))
    if kind == "l":
        return ("leave", hand) if rng.random() < 0.4 else ("shed", hand, ())
    if kind == "r":
        known = [line for line in page_of(lot).lines() if line[0] != name] + [("zz", 0)] * (rng.random() < 0.1)
        return ("record", hand, random_new_patch(rng, name, known))
    if kind == "t":
        return ("type", hand, name, tuple(random_text(rng, 3)))
    if kind == "s":
        return ("settle", hand, name)
    if kind in "fd":
        there = (hands.get(other, Lot([])) if kind == "f" else lot).names() + ["p0"] * (rng.random() < 0.1)
        names = tuple(rng.sample(there, min(len(there), rng.randint(0, 2))))
        if kind == "d":
            return ("shed", hand, names)
        other = other if other != hand else "q"
        return ("fetch", hand, other, None if rng.random() < 0.5 else names)
    return {"m": ("mark", word, hand), "u": ("unmark", word), "k": ("take", hand, word)}[kind]


def house_of_lot(rng, lot, hands):
    """A house in which one hand has all of a lot, and others some of it."""
    house = House()
    house.do(("come", "all"))
    for name in histories(lot)[0]:
        house.do(("record", "all", lot.patch_of(name)))
    for hand in hands:
        house.do(("come", hand))
        house.do(("fetch", hand, "all", rng.sample(lot.names(), min(len(lot), rng.randint(0, 2)))))
    return house


def random_house(rng, most=25, kinds="ccrrrrttssffffdmmuk"):
    """A house behind some drawn deeds, those left out that it refuses."""
    house = House()
    for hand in rng.sample(["g", "h", "k", "l"], rng.randint(0, 4)):
        house.do(("come", hand))
    for number in range(rng.randint(0, most)):
        try:
            house.do(random_deed(rng, house, number, kinds))
        except PatchError:
            pass
    return house


def random_change(rng, text):
    while True:
        place = rng.randint(0, len(text))
        old = text[place:place + rng.choice([0, 0, 1, 1, 2])]
        new = [rng.choice("uvw") for _ in range(rng.choice([0, 0, 1, 1, 2]))]
        if old or new:
            return (place, old, new)


def random_run(rng, text, names):
    run = []
    for name in names:
        run.append((name, random_change(rng, text)))
        text = made_by(text, run[-1][1])
    return run


def random_text(rng, most):
    return [rng.choice("abc") for _ in range(rng.randint(0, most))]


def random_bare(rng, most=5, signs="xxy"):
    count = rng.randint(0, most)
    pairs = [pair for pair in product(range(count), repeat=2) if rng.random() < 0.25]
    return Bare([rng.choice(signs) for _ in range(count)], pairs,
                [point for point in range(count) if rng.random() < 0.3])


def shuffled(rng, bare):
    """The bare page with its points numbered otherwise, and the list of what each became."""
    way = list(range(len(bare)))
    rng.shuffle(way)
    told = [None] * len(way)
    for point, words in enumerate(bare.told_words()):
        told[way[point]] = words
    return Bare(told, [(way[one], way[other]) for one, other in bare.arrows()],
                [way[point] for point in bare.dead_points()]), way


def slow_is_map(one, other, way):
    told, dead, aheads = other.told_words(), other.dead_points(), other.aheads()
    return (all(told[end] == words for end, words in zip(way, one.told_words()))
            and all(way[point] in dead for point in one.dead_points())
            and all((way[i], way[j]) in aheads for i, j in one.aheads()))


def slow_maps(one, other):
    """All maps, by trying all tuples."""
    return [way for way in product(range(len(other)), repeat=len(one)) if slow_is_map(one, other, way)]


def text_of_words(words):
    """The bare page that is a text of these words."""
    return Bare(words, list(combinations(range(len(words)), 2)), [])


def walks(orders, start):
    """All that one or more arrows lead to from start."""
    found = set()
    grown = {other for one, other in orders if one == start}
    while not grown <= found:
        found |= grown
        grown = {other for one, other in orders if one in found}
    return found


def slow_aheads(page):
    """The set of pairs of lines the first of which is ahead of the second."""
    orders = page.orders()
    return {(one, other) for one in page.lines() for other in walks(orders, one)}


def slow_rows(page):
    """All rows, by trying all lists of the live lines."""
    ahead = slow_aheads(page)
    return [list(row) for row in permutations(page.live())
            if not any((row[b], row[a]) in ahead for a, b in combinations(range(len(row)), 2))]


def slow_reads(page):
    ahead = slow_aheads(page)
    live = page.live()
    return not any((line, line) in ahead for line in live) and all(
        ((one, other) in ahead) != ((other, one) in ahead) for one, other in combinations(live, 2))


def slow_stayers(page):
    ahead = slow_aheads(page)
    return [line for line in page.live() if (line, line) not in ahead]


def slow_stays(page):
    """All stays, the empty one, too."""
    ahead = slow_aheads(page)
    stays = [[]]
    for stay in stays:
        stays += [stay + [line] for line in slow_stayers(page) if not stay or (stay[-1], line) in ahead]
    return stays


def slow_loose(page, lines):
    ahead = slow_aheads(page)
    return all((one, other) not in ahead for one, other in permutations(lines, 2))


def slow_matches(one, other):
    return [(i, j) for i, j in product(range(len(one)), range(len(other))) if one[i] == other[j]]


def slow_common_rows(one, other):
    """All common rows, the empty one, too."""
    matches = slow_matches(one, other)
    rows = [[]]
    for row in rows:
        rows += [row + [(i, j)] for i, j in matches if not row or (row[-1][0] < i and row[-1][1] < j)]
    return rows


def random_tree(rng, most=5):
    entries = rng.sample([("a", 0), ("a", 1), ("b", 0), ("b", 1), ("c", 0), ("c", 1)], rng.randint(0, most))
    kinds = {entry: rng.choice(["directory", "directory", "file"]) for entry in entries}
    directories = [None] + [entry for entry in entries if kinds[entry] == "directory"]
    sure = rng.random() < 0.5
    placings = {}
    for entry in entries:
        marks = [("m", number) for number in rng.sample(range(40), 40) if ("m", number) not in placings]
        mine = []
        for mark in marks[:1 if sure else rng.choice([1, 1, 2, 3])]:
            olds = [old for old in mine if rng.random() < 0.5]
            above = rng.choice(directories)
            word = f"w{entry[0]}{entry[1]}" if rng.random() < 0.7 else rng.choice("pq")
            placings[mark] = (entry, (above, word), olds)
            mine.append(mark)
    dead = [entry for entry in entries if rng.random() < rng.choice([0, 0.2])]
    items = list(placings.items())
    rng.shuffle(items)
    return FileTree(kinds, dict(items), dead)


def random_reading_tree(rng, most=5):
    """A tree that reads: each entry stands in the root or in an earlier directory, under a word of its own."""
    kinds, placings = {}, {}
    for number in range(rng.randint(0, most)):
        above = rng.choice([None, None] + [entry for entry, kind in kinds.items() if kind == "directory"])
        entry = ("e", number)
        kinds[entry] = rng.choice(["directory", "directory", "file"])
        placings[("m", number)] = (entry, (rng.choice([None, above]), f"w{number}"), [])
    dead = [entry for entry in kinds if rng.random() < 0.1 and not any(
        place[0] == entry for _, place, _ in placings.values())]
    return FileTree(kinds, placings, dead)


def random_steps(rng, tree, most=4, kinds="mmmmkb"):
    """Steps that can be done on a tree by one who has done none there."""
    live = {entry: tree.entries()[entry] for entry in tree.alive()}
    steps = []
    for _ in range(rng.randint(0, most)):
        directories = [None] + [entry for entry, kind in live.items() if kind == "directory"]
        place = (rng.choice(directories), rng.choice("pqrst"))
        step = rng.choice(kinds)
        if step == "k":
            kind = rng.choice(["directory", "file"])
            live[("new", len(steps))] = kind
            steps.append(("make", kind, place))
        elif live and step == "m":
            steps.append(("move", rng.choice(list(live)), place))
        elif live:
            steps.append(("bury", rng.choice(list(live))))
            del live[steps[-1][1]]
    return steps


def called_by(name, steps):
    """The steps as the hand of this name does them: what it makes is called by it."""
    def told(thing):
        if isinstance(thing, tuple):
            return (name, thing[1]) if thing[0] == "new" else tuple(told(item) for item in thing)
        return thing

    return [told(step) for step in steps]


def seeds(count):
    return [random.Random(number) for number in range(count)]
