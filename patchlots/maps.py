"""Maps between bare pages, and what they tell of whether pages are alike."""

from patchlots.bares import is_point, put_together
from patchlots.fitting import Likening, boxes
from patchlots.kinds import is_list
from patchlots.ways import numbers_in


def is_map(one, other, thing):
    """Whether any object is a map from one bare page to another one."""
    if not is_list(thing) or len(thing) != len(one):
        return False
    if not all([is_point(point, len(other)) for point in thing]):
        return False
    told = other.told_words()
    dead = set(other.dead_points())
    aheads = set(other.aheads())
    # What is ahead is so by arrows: so it is kept if arrows are.
    return (
        [told[point] for point in thing] == one.told_words()
        and all([thing[point] in dead for point in one.dead_points()])
        and all([(thing[start], thing[end]) in aheads for start, end in one.arrows()])
    )


def maps(one, other):
    """The list of all maps from one bare page to another one, as Python orders them."""
    found = []
    for masks in boxes(one, other):
        rows = [()]
        for mask in masks:
            rows = [row + (point,) for row in rows for point in numbers_in(mask, len(other))]
        found.extend(rows)
    return sorted(found)


def how_many_maps(one, other):
    """The number of the maps from one bare page to another one."""
    total = 0
    for masks in boxes(one, other):
        many = 1
        for mask in masks:
            many = many * len(numbers_in(mask, len(other)))
        total = total + many
    return total


def is_likeness(one, other, way):
    """Whether a map from one bare page to another one is a likeness."""
    if len(one) != len(other) or len(set(way)) != len(other):
        return False
    back = {end: start for start, end in enumerate(way)}
    return is_map(other, one, [back[point] for point in range(len(other))])


def likeness(one, other):
    """The first likeness from one bare page to another one, None if there is none."""
    if len(one) != len(other):
        return None
    likening = Likening(one, other)
    masks = likening.choices()
    way = likening.some_way(masks)
    if way is None:
        return None
    for point in range(len(one)):
        better = None
        lesser = numbers_in(masks[point], way[point])
        while better is None and len(lesser) > 0:
            better = likening.some_way(likening.taken(masks, point, lesser.pop(0)))
        if better is not None:
            way = better
        masks = likening.taken(masks, point, way[point])
    return tuple(way)


def next_numbers(told, classes):
    """The numbers that the class of the next point can have, ascending."""
    words = told[len(classes)]
    return [number for number in range(max(classes, default=-1) + 2)
            if number not in classes or told[classes.index(number)] == words]


def first_classes(told, classes):
    """The first list of classes of all points that begins with these."""
    found = list(classes)
    while len(found) < len(told):
        found.append(next_numbers(told, found)[0])
    return found


def classes_behind(told, classes):
    """The next list of classes of all points, as Python orders them, None behind the last one."""
    for index in reversed(range(len(told))):
        greater = [number for number in next_numbers(told, classes[:index]) if number > classes[index]]
        if len(greater) > 0:
            return first_classes(told, classes[:index] + greater[:1])
    return None


def parted_by(one, other):
    """The first triple (index, classes, counts) that parts two bare pages, None if they are alike."""
    if likeness(one, other) is not None:
        return None
    for index, bare in enumerate([one, other]):
        told = bare.told_words()
        classes = first_classes(told, [])
        while classes is not None:
            made = put_together(bare, classes)
            counts = (how_many_maps(made, one), how_many_maps(made, other))
            if counts[0] != counts[1]:
                return (index, tuple(classes), counts)
            classes = classes_behind(told, classes)
    return None
