"""Families of the parts of a lot: parts are told as ascending lists of names."""

from patchlots.histories import parts_of
from patchlots.kinds import are_names
from patchlots.lots import page_of
from patchlots.needs import needs_in, part_of_names


def page_of_names(lot, names):
    """The page of the part that has these names."""
    return page_of(part_of_names(lot, names))


def part_pages(lot):
    """The list of the pairs of the names of each part and its page, in THE ORDER OF CHOICES."""
    return [(names, page_of_names(lot, names)) for names in parts_of(lot)]


def is_among(names, others):
    """Whether names all stand among others."""
    return all([name in others for name in names])


def least_of(parts):
    """Those parts of a family in THE ORDER OF CHOICES that have no lesser one of it."""
    found = []
    for names in parts:
        if not any([is_among(lesser, names) for lesser in found]):
            found.append(names)
    return found


def greatest_of(parts):
    """Those parts of a family in THE ORDER OF CHOICES that are part of no greater one of it."""
    found = []
    for names in reversed(parts):
        if not any([is_among(names, greater) for greater in found]):
            found.append(names)
    return found[::-1]


def is_part_of(lot, thing):
    """Whether any object is a list of just the names of a part of the lot, each once."""
    if not are_names(thing) or not all([name in lot for name in thing]):
        return False
    needs = needs_in(lot)
    return all([need in thing for name in thing for need in needs[name]])
