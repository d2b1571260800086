"""Patches of a lot put together into one, and what keeps them from it."""

from patchlots.errors import Amid, BadCalled, BadNames, Inward, Twice
from patchlots.kinds import choice_place, is_list, is_name
from patchlots.lots import Lot
from patchlots.needs import needs_in
from patchlots.patches import Patch
from patchlots.renaming import backs_anew, lines_anew, orders_anew, other_patches
from patchlots.ways import shortest_walk


def check_several(lot, names):
    """BadNames, if things are not two or more unlike names of the lot."""
    if not is_list(names):
        raise BadNames(0)
    for index, name in enumerate(names):
        if name not in lot or name in names[:index]:
            raise BadNames(index)
    if len(names) < 2:
        raise BadNames(len(names))


def chain_between(lot, names):
    """The first of the shortest chains from one of some names through others to one of them, or None."""
    needs = needs_in(lot)
    found = []
    for name in names:
        nexts = {other: [] if other in names else needs[other] for other in needs}
        nexts[name] = [need for need in needs[name] if need not in names]
        chains = [shortest_walk(nexts, name, goal) for goal in names]
        found.extend([chain for chain in chains if chain is not None])
    return min(found, key=choice_place, default=None)


def between_chain(lot, names):
    """A list of as few names as can be, from one of some through others to one of them, or None."""
    check_several(lot, names)
    return chain_between(lot, names)


def check_inward(patches):
    """Inward for the first of some patches that buries or undoes what is of them."""
    put = {line: True for patch in patches for line in patch.own_lines()}
    buried = {(patch.called(), line): True for patch in patches for line in patch.burials()}
    for patch in patches:
        buries = any([line in put for line in patch.burials()])
        if buries or any([back in buried for back in patch.backs()]):
            raise Inward(patch.called())


def check_twice(patches):
    """Twice for the first line that two of some patches bury."""
    buried = sorted([line for patch in patches for line in patch.burials()])
    for line, other in zip(buried, buried[1:]):
        if line == other:
            raise Twice(line)


def joined_lot(lot, names, called):
    """The lot in which one patch called so stands for some."""
    check_several(lot, names)
    patches = [lot.patch_of(name) for name in sorted(names)]
    check_inward(patches)
    check_twice(patches)
    chain = chain_between(lot, names)
    if chain is not None:
        raise Amid(chain)
    if not is_name(called) or (called in lot and called not in names):
        raise BadCalled(called)
    own = [line for patch in patches for line in patch.own_lines()]
    lines = {line: (called, place) for place, line in enumerate(own)}
    buriers = {(patch.called(), line): called for patch in patches for line in patch.burials()}
    texts = [words for patch in patches for words in patch.texts()]
    orders = orders_anew([order for patch in patches for order in patch.orders()], lines)
    burials = lines_anew([line for patch in patches for line in patch.burials()], lines)
    backs = backs_anew(sorted({back for patch in patches for back in patch.backs()}), lines, buriers)
    made = Patch(called, texts, orders, burials, backs)
    return Lot(other_patches(lot, names, lines, buriers) + [made])
