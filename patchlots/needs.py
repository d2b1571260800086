"""What needs what in a lot: what is sent, parts with and without, chains and rounds."""

from patchlots.errors import BadNames, NoPatch
from patchlots.kinds import are_names, first_false, is_list
from patchlots.lots import Lot, check_parted
from patchlots.ways import nexts_of, reached, shortest_walk


def needs_in(lot):
    """The dict from each name to the names that it needs."""
    return {name: lot.patch_of(name).needs() for name in lot.names()}


def needed_in(lot):
    """The dict from each name to the names that need it."""
    needs = needs_in(lot)
    return nexts_of(needs, [(need, name) for name in needs for need in needs[name]])


def part_of_names(lot, names):
    """The lot of the patches of some names."""
    return Lot([lot.patch_of(name) for name in names])


def lot_with(lot, patch):
    """The lot with a patch more."""
    return Lot([lot.patch_of(name) for name in lot.names()] + [patch])


def sent_to(one, other):
    """The names of the other lot that the one lacks, in the order in which they can come."""
    check_parted(one, other)
    needs = needs_in(other)
    there = {name: True for name in one.names()}
    lacking = [name for name in needs if name not in there]
    sent = []
    while len(lacking) > 0:
        ready = [name for name in lacking if all([need in there for need in needs[name]])]
        there[ready[0]] = True
        lacking.remove(ready[0])
        sent.append(ready[0])
    return sent


def wrong_name(lot, names):
    """The index of the first thing that is no name of the lot, 0 for no list, None if all are."""
    if not is_list(names):
        return 0
    return first_false([name in lot for name in names])


def names_from(nexts, names):
    """The dict whose keys are some names and all to which arrows lead from them."""
    found = {name: name for name in names}
    for name in names:
        found.update(reached(nexts, name))
    return found


def least_with(lot, names):
    """The least part that has the patches of these names."""
    index = wrong_name(lot, names)
    if index is not None:
        raise BadNames(index)
    return part_of_names(lot, list(names_from(needs_in(lot), names)))


def greatest_without(lot, names):
    """The greatest part that has none of the patches of these names."""
    index = wrong_name(lot, names)
    if index is not None:
        raise BadNames(index)
    lost = names_from(needed_in(lot), names)
    return part_of_names(lot, [name for name in lot.names() if name not in lost])


def check_names(lot, names):
    """NoPatch for the first thing that is no name of the lot."""
    for name in names:
        if name not in lot:
            raise NoPatch(name)


def needs_chain(lot, one, other):
    """A needs chain from one name to another one with as few names as can be, or None."""
    check_names(lot, [one, other])
    if one == other:
        return [one]
    return shortest_walk(needs_in(lot), one, other)


def is_needs_chain(lot, one, other, thing):
    """Whether any object is a needs chain from one name to another one."""
    check_names(lot, [one, other])
    if not are_names(thing) or len(thing) == 0 or not all([name in lot for name in thing]):
        return False
    needs = needs_in(lot)
    linked = all([need in needs[thing[index]] for index, need in enumerate(thing[1:])])
    return linked and thing[0] == one and thing[-1] == other


def heights(nexts):
    """For each name the number of names in the longest list that begins with it, along arrows."""
    found = {}
    while len(found) < len(nexts):
        for name in nexts:
            if name not in found and all([other in found for other in nexts[name]]):
                found[name] = 1 + max([found[other] for other in nexts[name]], default=0)
    return found


def rounds_of(lot):
    """The lists of the names that come together, each as early as can be."""
    height = heights(needs_in(lot))
    last = max(list(height.values()), default=0)
    return [[name for name in lot.names() if height[name] == number]
            for number in range(1, last + 1)]


def longest_needs(lot):
    """The first of the longest lists of names each of which is needed by the next."""
    needed = needed_in(lot)
    height = heights(needed)
    rest = max(list(height.values()), default=0)
    found = []
    ahead = lot.names()
    while rest > 0:
        found.append([name for name in ahead if height[name] == rest][0])
        ahead = needed[found[-1]]
        rest -= 1
    return found
