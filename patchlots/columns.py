"""Stays by worth, and how few of them have all stayers; each with what shows it can't be bettered."""

from patchlots.chains import (
    fewest_chains, is_chain, is_loose, most_loose, richest_chain, sums_from,
)
from patchlots.errors import BadWorths
from patchlots.kinds import is_integer, is_line_of, is_list, is_number, is_pair
from patchlots.stays import points_told, shares_told, stayer_ways
from patchlots.ways import places_in, turned


def worths_told(lines, worths):
    """The list of the worths of the stayers, or BadWorths."""
    if not isinstance(worths, dict):
        raise BadWorths(worths)
    places = places_in(lines)
    for line, worth in worths.items():
        if not is_line_of(line, places) or not is_number(worth):
            raise BadWorths(line)
    for line in lines:
        if line not in worths:
            raise BadWorths(line)
    return [worths[line] for line in lines]


def richest_stay(page, worths):
    """A pair (sum, stay) of the greatest sum of worths."""
    lines, masks = stayer_ways(page)
    told = worths_told(lines, worths)
    chain = richest_chain(masks, told)
    return (sum([told[point] for point in chain]), [lines[point] for point in chain])


def worth_cover(page, worths):
    """A cover of the least cost.

    Each line is covered from the richest sum ahead of it on, up to this sum and its worth: so lines
    one of which is ahead of the other are never covered by the same pair.
    """
    lines, masks = stayer_ways(page)
    told = worths_told(lines, worths)
    ends = sums_from(turned(masks), told)
    starts = [end - worth for end, worth in zip(ends, told)]
    steps = sorted(set(starts + ends))
    cover = []
    for index, end in enumerate(steps[1:]):
        start = steps[index]
        cover.append((end - start, [line for place, line in enumerate(lines)
                                    if starts[place] <= start and end <= ends[place]]))
    return cover


def is_worth_cover(page, worths, thing):
    """Whether any object is a cover, of whatever cost."""
    lines, masks = stayer_ways(page)
    told = worths_told(lines, worths)
    if not is_list(thing):
        return False
    covered = [0 for _ in lines]
    for pair in thing:
        if not is_pair(pair) or not is_integer(pair[0]) or pair[0] < 1:
            return False
        points = points_told(lines, pair[1])
        if points is None or not is_loose(masks, points):
            return False
        for point in points:
            covered[point] = covered[point] + pair[0]
    return all([much >= worth for much, worth in zip(covered, told)])


def columns(page):
    """Columns, as few as can be."""
    lines, masks = stayer_ways(page)
    return [[lines[point] for point in chain] for chain in fewest_chains(masks)]


def scattered(page):
    """A scattered list of as many lines as can be, in THE ORDER."""
    lines, masks = stayer_ways(page)
    return [lines[point] for point in most_loose(masks)]


def are_columns(page, thing):
    """Whether any object is columns of the page."""
    lines, masks = stayer_ways(page)
    shares = shares_told(lines, thing)
    return shares is not None and all([is_chain(masks, share) for share in shares])


def is_scattered(page, thing):
    """Whether any object is a scattered list of the page."""
    lines, masks = stayer_ways(page)
    points = points_told(lines, thing)
    return points is not None and is_loose(masks, points)
