"""In which turns lots can be put to one, such that it reads behind each."""

from patchlots.lots import page_of
from patchlots.reading import reading


def reads_with(lot, others):
    """Whether a lot with some others put to it reads."""
    for other in others:
        lot = lot | other
    return reading(page_of(lot)) is not None


def first_turns(lot, others):
    """For those that can be put to a lot, in turn, their first order: a dict from ascending tuples.

    others is a dict from names to lots.
    """
    found = {(): []}
    level = [()]
    while len(level) > 0:
        grown = {}
        for names in level:
            for name in others:
                if name not in names:
                    row = found[names] + [name]
                    key = tuple(sorted(row))
                    grown[key] = min(row, grown.get(key, row))
        level = [key for key in grown if reads_with(lot, [others[other] for other in key])]
        for key in level:
            found[key] = grown[key]
    return found
