"""Histories all of whose beginnings read, and what shows that there is none."""

from patchlots.families import is_part_of, page_of_names
from patchlots.histories import needed_before
from patchlots.kinds import choice_place, is_list
from patchlots.orderings import can_come
from patchlots.reading import reading
from patchlots.ways import numbers_in, places_in


def names_in(lot, mask):
    """The names of a lot in a mask, ascending."""
    names = lot.names()
    return [names[place] for place in numbers_in(mask, len(names))]


def mask_reads(lot, mask):
    """Whether the part of the names in a mask reads."""
    return reading(page_of_names(lot, names_in(lot, mask))) is not None


def smooth_history(lot):
    """The first smooth history, in THE ORDER, None if there is none."""
    before = needed_before(lot)
    met = set()
    rows = [[]]
    while len(rows) > 0:
        row = rows.pop()
        mask = sum([1 << place for place in row])
        # A part that was met before has led to no end, or the search would be over.
        if mask not in met and mask_reads(lot, mask):
            if len(row) == len(before):
                names = lot.names()
                return [names[place] for place in row]
            rows.extend([row + [place] for place in reversed(can_come(before, mask))])
        met.add(mask)
    return None


def stuck_parts(lot):
    """The parts to which readable beginnings lead, None if the whole lot is one of them."""
    before = needed_before(lot)
    found = [0]
    level = [0]
    while len(level) > 0:
        further = sorted({mask | 1 << place for mask in level for place in can_come(before, mask)})
        level = [mask for mask in further if mask_reads(lot, mask)]
        found.extend(level)
    if (1 << len(before)) - 1 in found:
        return None
    return sorted([names_in(lot, mask) for mask in found], key=choice_place)


def is_stuck(lot, thing):
    """Whether any object is stuck parts of the lot."""
    if not is_list(thing) or not all([is_part_of(lot, names) for names in thing]):
        return False
    places = places_in(lot.names())
    before = needed_before(lot)
    masks = [sum([1 << places[name] for name in names]) for names in thing]
    if len(set(masks)) != len(masks) or 0 not in masks or (1 << len(before)) - 1 in masks:
        return False
    there = set(masks)
    further = sorted({mask | 1 << place for mask in masks for place in can_come(before, mask)})
    return all([mask in there or not mask_reads(lot, mask) for mask in further])
