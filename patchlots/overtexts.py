"""The texts over a span of texts, and the clash that keeps one from being the least."""

from patchlots.errors import NotTexts
from patchlots.gluing import glued
from patchlots.orderings import orderings
from patchlots.ways import closure, places_in, turned


def is_text(bare):
    """Whether a bare page is a text: none dead, its points numbered in their order."""
    count = len(bare)
    pairs = [(one, other) for one in range(count) for other in range(one + 1, count)]
    return len(bare.dead_points()) == 0 and bare.aheads() == pairs


def glue_of_texts(span):
    """The glue of a span of texts."""
    landing = glued(span)
    if not all([is_text(bare) for bare in span[:3]]):
        raise NotTexts(span)
    return landing


def texts_over(span):
    """The list of the pairs of maps into the texts over a span of texts, as Python orders them."""
    page, mine, theirs = glue_of_texts(span)
    found = []
    for row in orderings(turned(closure(len(page), page.arrows()))):
        places = places_in(row)
        found.append((tuple([places[point] for point in mine]),
                      tuple([places[point] for point in theirs])))
    return sorted(found)


def clash_over(span):
    """The first pair of points of both, neither from common, that the glue leaves unordered."""
    page, mine, theirs = glue_of_texts(span)
    aheads = set(page.aheads())
    for i, point in enumerate(mine):
        for j, other in enumerate(theirs):
            apart = (point, other) not in aheads and (other, point) not in aheads
            if apart and i not in span[3] and j not in span[4]:
                return (i, j)
    return None
