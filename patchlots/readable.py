"""Which parts of a lot read, and which end a clash."""

from patchlots.clashes import clashes
from patchlots.errors import NoClash, NoPart
from patchlots.families import (
    greatest_of, is_among, is_part_of, least_of, page_of_names, part_pages,
)
from patchlots.kinds import is_line, is_list, line_of
from patchlots.lots import page_of
from patchlots.needs import least_with
from patchlots.reading import reading


def readable_parts(lot):
    """The parts whose page reads."""
    return [names for names, page in part_pages(lot) if reading(page) is not None]


def least_unreadable(lot):
    """The parts that do not read and have no lesser part that does not."""
    return least_of([names for names, page in part_pages(lot) if reading(page) is None])


def greatest_readable(lot):
    """The parts that read and are part of no greater one that does."""
    return greatest_of(readable_parts(lot))


def least_reads(lot, names):
    """Whether the least part with these names reads."""
    return reading(page_of(least_with(lot, names))) is not None


def odd_pairs(lot):
    """The pairs of names whose least parts read each, and not the least one with both."""
    good = [name for name in lot.names() if least_reads(lot, [name])]
    return [(one, other) for index, one in enumerate(good) for other in good[index + 1:]
            if not least_reads(lot, [one, other])]


def clash_of(thing):
    """The tuple, as clashes are told, that any object is, None if it is no such."""
    if not is_list(thing) or len(thing) < 2:
        return None
    if thing[0] == "apart" and len(thing) == 3 and is_line(thing[1]) and is_line(thing[2]):
        return ("apart", line_of(thing[1]), line_of(thing[2]))
    if thing[0] == "knot" and len(thing) == 2 and is_list(thing[1]):
        if all([is_line(line) for line in thing[1]]):
            return ("knot", tuple([line_of(line) for line in thing[1]]))
    return None


def least_ends(lot, names, clash):
    """The least parts that have the part of these names and not a clash of its page."""
    if not is_part_of(lot, names):
        raise NoPart(names)
    told = clash_of(clash)
    if told not in clashes(page_of_names(lot, names)):
        raise NoClash(clash)
    return least_of([greater for greater, page in part_pages(lot)
                     if is_among(names, greater) and told not in clashes(page)])
