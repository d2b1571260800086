"""Rows: all the ways in which the live lines of a page can stand."""

from patchlots.errors import BadRow
from patchlots.kinds import are_just, first_false, is_list, line_of
from patchlots.orderings import how_many_orderings, orderings
from patchlots.pages import Page, checked_lines
from patchlots.ways import live_ways, places_in, turned


def live_before(page):
    """The live lines, and for each the mask of the others that are ahead of it.

    None instead of the masks if two unlike ones are ahead of one another.
    """
    live, masks = live_ways(page)
    ahead = [mask & ~(1 << place) for place, mask in enumerate(turned(masks))]
    if any([mask & masks[place] for place, mask in enumerate(ahead)]):
        return live, None
    return live, ahead


def rows_of(page):
    """The list of all rows, in THE ORDER."""
    live, before = live_before(page)
    if before is None:
        return []
    return [[live[place] for place in row] for row in orderings(before)]


def how_many_rows(page):
    """The number of the rows."""
    _, before = live_before(page)
    if before is None:
        return 0
    return how_many_orderings(before)


def is_row(page, thing):
    """Whether any object is a row of the page."""
    live, before = live_before(page)
    places = places_in(live)
    if before is None or not are_just(thing, places):
        return False
    come = 0
    for line in thing:
        place = places[line_of(line)]
        if before[place] & ~come != 0:
            return False
        come = come | 1 << place
    return True


def wrong_row(rows, lines):
    """The index of the first thing that is no list of just these lines, each once, or None."""
    if not is_list(rows) or len(rows) == 0:
        return 0
    return first_false([are_just(row, lines) for row in rows])


def page_of_rows(lines, rows):
    """The page on which a line is ordered ahead of another one just if it is so in each row."""
    words = checked_lines(lines)
    index = wrong_row(rows, words)
    if index is not None:
        raise BadRow(index)
    told = list(words)
    places = places_in(told)
    everything = (1 << len(told)) - 1
    behind = [everything for _ in told]
    for row in rows:
        rest = everything
        for line in row:
            place = places[line_of(line)]
            rest = rest & ~(1 << place)
            behind[place] = behind[place] & rest
    orders = [(one, other) for one in told for other in told
              if behind[places[one]] >> places[other] & 1]
    return Page(words, orders, [])


def all_between(lines, rows):
    """The list of the rows of the page of these rows."""
    return rows_of(page_of_rows(lines, rows))


def seen(page):
    """The page of the live lines alone, with as few orders as tell the same rows."""
    live, masks = live_ways(page)
    ahead = turned(masks)
    orders = []
    for one in range(len(live)):
        for other in range(len(live)):
            others = ~(1 << one | 1 << other)
            if one != other and masks[one] >> other & 1 and masks[one] & ahead[other] & others == 0:
                orders.append((live[one], live[other]))
    words = page.lines()
    return Page({line: words[line] for line in live}, orders, [])
