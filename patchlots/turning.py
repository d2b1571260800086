"""Which parts of a lot turn, and which order two lines."""

from patchlots.clashes import knots
from patchlots.errors import NoLine
from patchlots.families import greatest_of, least_of, part_pages
from patchlots.lots import page_of
from patchlots.reading import is_ahead, line_on


def least_turning(lot):
    """The parts that turn and have no lesser part that does."""
    return least_of([names for names, page in part_pages(lot) if len(knots(page)) > 0])


def greatest_straight(lot):
    """The parts that do not turn and are part of no greater one that does not."""
    return greatest_of([names for names, page in part_pages(lot) if len(knots(page)) == 0])


def two_lines(lot, one, other):
    """The two unlike lines of a lot that things are, or NoLine."""
    page = page_of(lot)
    first = line_on(page, one)
    last = line_on(page, other)
    if first == last:
        raise NoLine(other)
    return first, last


def ordered_parts(lot, first, last, wanted):
    """The parts with both lines in which it is so, or not so, that one is ahead of the other."""
    found = []
    for names, page in part_pages(lot):
        if first[0] in names and last[0] in names:
            if (is_ahead(page, first, last) or is_ahead(page, last, first)) == wanted:
                found.append(names)
    return found


def least_ordering(lot, one, other):
    """The least parts that have both lines and in which one of them is ahead of the other."""
    first, last = two_lines(lot, one, other)
    return least_of(ordered_parts(lot, first, last, True))


def greatest_unordered(lot, one, other):
    """The greatest parts that have both lines and in which neither is ahead of the other."""
    first, last = two_lines(lot, one, other)
    return greatest_of(ordered_parts(lot, first, last, False))
