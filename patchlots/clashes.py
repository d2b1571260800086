"""Clashes of a page, new ones of two lots, and the lines that a lot has lost."""

from patchlots.errors import BadName, TakenName
from patchlots.kinds import is_name
from patchlots.lots import page_of
from patchlots.pages import Page
from patchlots.patches import Patch
from patchlots.reading import line_on, lines_behind
from patchlots.ways import live_ways, numbers_in, shortest_walk, ways_between


def knots(page):
    """The list of the knots, by their first lines."""
    lines = list(page.lines())
    masks = ways_between(page, lines)
    found = []
    for place, mask in enumerate(masks):
        around = [other for other in numbers_in(mask, len(lines)) if masks[other] >> place & 1]
        # Each line of a knot is in its own mask: so each knot is told once, at its first line.
        if around[:1] == [place]:
            found.append([lines[other] for other in around])
    return found


def clashes(page):
    """The list of the clashes: the apart ones, by their lines, then the knots with a live line."""
    live, masks = live_ways(page)
    count = len(live)
    apart = [
        ("apart", live[one], live[other]) for one in range(count) for other in range(one + 1, count)
        if not masks[one] >> other & 1 and not masks[other] >> one & 1
    ]
    alive = set(live)
    turning = [("knot", tuple(lines)) for lines in knots(page) if any([line in alive for line in lines])]
    return apart + turning


def new_clashes(one, other):
    """The clashes of the page of both lots that neither page has."""
    both = clashes(page_of(one | other))
    old = set(clashes(page_of(one)) + clashes(page_of(other)))
    return [clash for clash in both if clash not in old]


def lost_lines(lot):
    """The lines of a lot, ascending, that are ahead of themselves."""
    return sorted([line for lines in knots(page_of(lot)) for line in lines])


def lost_ring(lot, line):
    """As few lines as can be, each ordered ahead of the next, from a lost line round to it, or None."""
    page = page_of(lot)
    told = line_on(page, line)
    walk = shortest_walk(lines_behind(page), told, told)
    return None if walk is None else walk[:-1]


def keeping_patch(lot, name):
    """A Patch called so by which a lot reads as a text of its live lines that are not lost."""
    if not is_name(name):
        raise BadName(name)
    if name in lot:
        raise TakenName(name)
    page = page_of(lot)
    alive = set(page.live())
    buried = [line for line in lost_lines(lot) if line in alive]
    live, masks = live_ways(Page(page.lines(), page.orders(), page.dead() + buried))
    # A line has in its mask all that those behind it have, and them: so greater masks stand ahead.
    row = sorted([(mask, place) for place, mask in enumerate(masks)], reverse=True)
    orders = [(live[row[index][1]], live[place]) for index, (_, place) in enumerate(row[1:])
              if not row[index][0] >> place & 1]
    return Patch(name, [], orders, buried)
