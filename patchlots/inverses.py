"""Patches taken out of lots, their inverses, and what tells both apart, now and later."""

from patchlots.errors import BadCalled, StillNeeded
from patchlots.kinds import is_name
from patchlots.lots import burials_at, lacking, page_of
from patchlots.needs import lot_with, part_of_names
from patchlots.patches import Patch
from patchlots.reading import reading
from patchlots.ways import live_ways, numbers_in, ways_between


def taken_out(lot, name):
    """The lot without a last patch."""
    lot.patch_of(name)
    for other in lot.names():
        if name in lot.patch_of(other).needs():
            raise StillNeeded(name, other)
    return part_of_names(lot, [other for other in lot.names() if other != name])


def inverse_of(patch, called):
    """The patch called so that buries and brings back what a patch brought and buried."""
    if not is_name(called) or called == patch.called() or called in patch.needs():
        raise BadCalled(called)
    buried = sorted(set(patch.own_lines() + [line for _, line in patch.backs()]))
    return Patch(called, [], [], buried, [(patch.called(), line) for line in patch.burials()])


def both_ways(lot, name, called):
    """The pair of the lot with the inverse of a last patch, and of the lot without this patch."""
    without = taken_out(lot, name)
    if called in lot:
        raise BadCalled(called)
    return lot_with(lot, inverse_of(lot.patch_of(name), called)), without


def with_inverse(lot, name, called):
    """The lot with the inverse of a last patch."""
    return both_ways(lot, name, called)[0]


def apart_now(lot, name, called):
    """What tells the pages of with_inverse and taken_out apart, None if nothing does."""
    inverse, without = both_ways(lot, name, called)
    live, masks = live_ways(page_of(inverse))
    others, other_masks = live_ways(page_of(without))
    lone = [line for line in live if line not in others] + [line for line in others if line not in live]
    if len(lone) > 0:
        return ("live", min(lone))
    for line, mask, other_mask in zip(live, masks, other_masks):
        if mask != other_mask:
            return ("ahead", line, live[numbers_in(mask ^ other_mask, len(live))[0]])
    return None


def first_new_way(inverse, without):
    """The first pair of lines of the one page one of which is ahead of the other in the other page alone."""
    lines = list(without.lines())
    everything = (1 << len(lines)) - 1
    own = [line for line in inverse.lines() if line not in lines]
    masks = ways_between(inverse, lines + own)
    for line, mask, old in zip(lines, masks, ways_between(without, lines)):
        more = (mask & everything) ^ old
        if more != 0:
            return (line, lines[numbers_in(more, len(lines))[0]])
    return None


def free_name(names):
    """A name that is none of these."""
    number = 0
    while f"later{number}" in names:
        number += 1
    return f"later{number}"


def apart_later(lot, name, called):
    """A later patch that tells with_inverse and taken_out apart for ever, None if there is none."""
    inverse, without = both_ways(lot, name, called)
    page = page_of(without)
    back = [line for _, line in lot.patch_of(name).backs()]
    way = (back[0], back[0]) if len(back) > 0 else first_new_way(page_of(inverse), page)
    if way is None:
        return None
    later = free_name(inverse.names())
    one, other = way
    if one != other:
        orders = [((later, 0), one), (other, (later, 1))]
        return Patch(later, ["", ""], orders, page.live())
    # It alone stays live: or, with the inverse, it does not.
    backs = [(burying, one) for burying in burials_at(without, one)]
    return Patch(later, [], [], [line for line in page.live() if line != one], backs)


def is_later(lot, called, without, thing):
    """Whether any object is a later patch of a lot, and of that without a last patch."""
    if not isinstance(thing, Patch) or thing.called() in lot or thing.called() == called:
        return False
    patches = [without.patch_of(name) for name in without.names()] + [thing]
    return lacking({patch.called(): patch for patch in patches}) is None


def shows_later(lot, name, called, thing):
    """Whether any object is a later patch behind which with_inverse and taken_out read unlike."""
    inverse, without = both_ways(lot, name, called)
    if not is_later(lot, called, without, thing):
        return False
    return reading(page_of(lot_with(inverse, thing))) != reading(page_of(lot_with(without, thing)))
