"""Gluing bare pages along what they have in common, and the other way about."""

from patchlots.bares import Bare, put_together
from patchlots.errors import BadCorner, BadLanding, BadSpan
from patchlots.kinds import first_false, is_list
from patchlots.maps import is_likeness, is_map
from patchlots.ways import nexts_of, reached


def wrong_five(thing, ends):
    """The index of the first of five, three bare pages and two maps, that is none, or None.

    Ends tells between which of the three each map leads; 0 for no list of five.
    """
    if not is_list(thing) or len(thing) != 5:
        return 0
    index = first_false([isinstance(bare, Bare) for bare in thing[:3]])
    if index is not None:
        return index
    index = first_false([is_map(thing[start], thing[end], thing[3 + place])
                         for place, (start, end) in enumerate(ends)])
    return None if index is None else 3 + index


def check_span(span):
    """BadSpan for the first of the five that is none."""
    index = wrong_five(span, [(0, 1), (0, 2)])
    if index is not None:
        raise BadSpan(index)


def is_landing(span, thing):
    """Whether any object is a landing of a span."""
    check_span(span)
    if not is_list(thing) or len(thing) != 3 or not isinstance(thing[0], Bare):
        return False
    common, one, other, left, right = span
    page, mine, theirs = thing
    if not is_map(one, page, mine) or not is_map(other, page, theirs):
        return False
    return all([mine[left[point]] == theirs[right[point]] for point in range(len(common))])


def set_beside(one, other):
    """The bare page of the points of both, those of the other behind, none put together."""
    count = len(one)
    arrows = [(count + start, count + end) for start, end in other.arrows()]
    dead = [count + point for point in other.dead_points()]
    return Bare(one.told_words() + other.told_words(), one.arrows() + arrows, one.dead_points() + dead)


def numbered(things):
    """The numbers of the things, counted as each is first met."""
    numbers = {}
    for thing in things:
        if thing not in numbers:
            numbers[thing] = len(numbers)
    return [numbers[thing] for thing in things]


def glued(span):
    """The landing in which points go together only where they have to."""
    check_span(span)
    common, one, other, left, right = span
    count = len(one)
    pairs = [(left[point], count + right[point]) for point in range(len(common))]
    both = set_beside(one, other)
    nexts = nexts_of(list(range(len(both))), pairs + [(end, start) for start, end in pairs])
    firsts = [min(list(reached(nexts, point)) + [point]) for point in range(len(both))]
    classes = numbered(firsts)
    return (put_together(both, classes), tuple(classes[:count]), tuple(classes[count:]))


def through(span, thing):
    """The one map that agrees from the glue of a span to the page of a landing."""
    if not is_landing(span, thing):
        raise BadLanding(thing)
    page, mine, theirs = glued(span)
    way = {}
    for point, end in zip(mine, thing[1]):
        way[point] = end
    for point, end in zip(theirs, thing[2]):
        way[point] = end
    return tuple([way[point] for point in range(len(page))])


def is_glue(span, thing):
    """Whether any object is a landing from which just one map that agrees leads to each landing."""
    if not is_landing(span, thing):
        return False
    return is_likeness(glued(span)[0], thing[0], through(span, thing))


def shared(corner):
    """The bare page of the pairs of points that go to one, with the maps to both of its sides."""
    index = wrong_five(corner, [(1, 0), (2, 0)])
    if index is not None:
        raise BadCorner(index)
    _, one, other, mine, theirs = corner
    pairs = [(i, j) for i in range(len(one)) for j in range(len(other)) if mine[i] == theirs[j]]
    ahead = set(one.aheads())
    their_ahead = set(other.aheads())
    arrows = [
        (place, further) for place, (i, j) in enumerate(pairs) for further, (k, m) in enumerate(pairs)
        if (i, k) in ahead and (j, m) in their_ahead
    ]
    dead = set(one.dead_points())
    their_dead = set(other.dead_points())
    told = one.told_words()
    bare = Bare([told[i] for i, _ in pairs], arrows,
                [place for place, (i, j) in enumerate(pairs) if i in dead and j in their_dead])
    return (bare, tuple([i for i, _ in pairs]), tuple([j for _, j in pairs]))
