"""What can stay live where a page is made to read by burials alone."""

from patchlots.chains import is_chain, is_loose, richest_chain, sums_from
from patchlots.errors import NoLive
from patchlots.kinds import are_just, is_line_of, is_list, line_of, wrong_pick
from patchlots.reading import lines_behind
from patchlots.ways import live_ways, places_in, shortest_walk, turned


def ring_through(page, line):
    """A ring with a live line as its first one, of as few lines as can be, None if there is none."""
    if not is_line_of(line, places_in(page.live())):
        raise NoLive(line)
    walk = shortest_walk(lines_behind(page), line_of(line), line_of(line))
    return None if walk is None else walk[:-1]


def stayer_ways(page):
    """The stayers, in THE ORDER, and for each the mask of those of them that it is ahead of."""
    live, masks = live_ways(page)
    staying = [place for place, mask in enumerate(masks) if not mask >> place & 1]
    return [live[place] for place in staying], [
        sum([1 << index for index, other in enumerate(staying) if masks[place] >> other & 1])
        for place in staying
    ]


def stayers(page):
    """The live lines, in THE ORDER, through which no ring goes."""
    return stayer_ways(page)[0]


def longest_stay(page):
    """A stay of as many lines as can be."""
    lines, masks = stayer_ways(page)
    return [lines[point] for point in richest_chain(masks, [1 for _ in lines])]


def fewest_buried(page):
    """The number of the live lines that the longest stay lacks."""
    return len(page.live()) - len(longest_stay(page))


def points_told(lines, thing):
    """The points of the lines that any object, a list of unlike ones, tells; None if it is none."""
    places = places_in(lines)
    if wrong_pick(thing, places) is not None:
        return None
    return [places[line_of(line)] for line in thing]


def shares_told(lines, thing):
    """The lists of the points in any object, a list of lists, none empty, of all lines, each once.

    None if it is no such list.
    """
    if not is_list(thing) or not all([is_list(share) and len(share) > 0 for share in thing]):
        return None
    places = places_in(lines)
    if not are_just([line for share in thing for line in share], places):
        return None
    return [[places[line_of(line)] for line in share] for share in thing]


def is_stay(page, thing):
    """Whether any object is a stay of the page."""
    lines, masks = stayer_ways(page)
    points = points_told(lines, thing)
    return points is not None and is_chain(masks, points)


def levels_of(masks):
    """For each point the number of the points in the longest chain that ends with it."""
    return sums_from(turned(masks), [1 for _ in masks])


def stay_levels(page):
    """The levelling whose k-th list has the lines that end stays of k + 1 lines, and none of more."""
    lines, masks = stayer_ways(page)
    levels = levels_of(masks)
    return [[line for line, level in zip(lines, levels) if level == number]
            for number in range(1, max(levels, default=0) + 1)]


def is_levelling(page, thing):
    """Whether any object is a levelling of the page."""
    lines, masks = stayer_ways(page)
    shares = shares_told(lines, thing)
    return shares is not None and all([is_loose(masks, share) for share in shares])


def sometimes_levels(page):
    """The dict from the lines that are in some longest stay, in THE ORDER, to their levels."""
    lines, masks = stayer_ways(page)
    ends = levels_of(masks)
    starts = sums_from(masks, [1 for _ in masks])
    longest = max(ends, default=0)
    return {line: end for line, end, start in zip(lines, ends, starts) if end + start == longest + 1}


def always_stay(page):
    """The lines, in THE ORDER, that are in all longest stays."""
    levels = sometimes_levels(page)
    held = list(levels.values())
    return [line for line, level in levels.items() if held.count(level) == 1]


def sometimes_stay(page):
    """The lines, in THE ORDER, that are in some longest stay."""
    return list(sometimes_levels(page))
