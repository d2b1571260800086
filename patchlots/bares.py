"""Bare pages, whose lines have no names."""

from patchlots.errors import BadArrow, BadClasses, BadDead, BadTold
from patchlots.kinds import first_false, is_list, is_number, is_pair, wrong_words
from patchlots.ways import closure, numbers_in, places_in


class Bare:
    """Points that say words, some of them dead, and arrows between them."""

    def __init__(self, told, arrows, dead):
        index = wrong_words(told)
        if index is not None:
            raise BadTold(index)
        self._told = list(told)
        self._arrows = checked_arrows(arrows, len(self._told))
        self._dead = checked_points(dead, len(self._told))

    def told_words(self):
        """The words of its points."""
        return list(self._told)

    def arrows(self):
        """Its arrows, ascending, each once."""
        return list(self._arrows)

    def dead_points(self):
        """Its dead points, ascending, each once."""
        return list(self._dead)

    def aheads(self):
        """The pairs of points, ascending, the first one of which is ahead of the second."""
        count = len(self._told)
        return [(one, other) for one, mask in enumerate(closure(count, self._arrows))
                for other in numbers_in(mask, count)]

    def __len__(self):
        return len(self._told)

    def __eq__(self, other):
        return (
            isinstance(other, Bare) and self._told == other._told
            and self._arrows == other._arrows and self._dead == other._dead
        )


def is_point(thing, count):
    """Whether a thing is one of so many points."""
    return is_number(thing) and thing < count


def checked_arrows(arrows, count):
    """The arrows between so many points, ascending, each once, or BadArrow."""
    if not is_list(arrows):
        raise BadArrow(0)
    index = first_false([
        is_pair(thing) and is_point(thing[0], count) and is_point(thing[1], count)
        for thing in arrows
    ])
    if index is not None:
        raise BadArrow(index)
    return sorted({(arrow[0], arrow[1]) for arrow in arrows})


def checked_points(dead, count):
    """The dead ones of so many points, ascending, each once, or BadDead."""
    if not is_list(dead):
        raise BadDead(0)
    index = first_false([is_point(thing, count) for thing in dead])
    if index is not None:
        raise BadDead(index)
    return sorted(set(dead))


def bare_of(page):
    """The bare page with a point for each line of a page, in THE ORDER."""
    lines = page.lines()
    points = places_in(lines)
    arrows = [(points[one], points[other]) for one, other in page.orders()]
    return Bare([lines[line] for line in lines], arrows, [points[line] for line in page.dead()])


def wrong_class(told, classes):
    """The index of the first thing that cannot be the class of a point, or lacks; or None."""
    if not is_list(classes):
        return 0
    says = []
    for index, thing in enumerate(classes):
        if index >= len(told) or not is_number(thing) or thing > len(says):
            return index
        if thing == len(says):
            says.append(told[index])
        elif says[thing] != told[index]:
            return index
    return None if len(classes) == len(told) else len(classes)


def put_together(bare, classes):
    """The bare page with a point for each class of points."""
    told = bare.told_words()
    index = wrong_class(told, classes)
    if index is not None:
        raise BadClasses(index)
    firsts = [place for place, number in enumerate(classes) if number not in classes[:place]]
    arrows = [(classes[one], classes[other]) for one, other in bare.arrows()]
    return Bare([told[place] for place in firsts], arrows,
                [classes[point] for point in bare.dead_points()])
