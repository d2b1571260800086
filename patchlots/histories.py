"""The histories of a lot, its parts, and the least one with the same page."""

from patchlots.kinds import are_just_names, choice_place
from patchlots.lots import page_of
from patchlots.needs import needs_in, part_of_names
from patchlots.orderings import closed_masks, how_many_orderings, orderings
from patchlots.ways import numbers_in, places_in


def needed_before(lot):
    """For each name of a lot, ascending, the mask of those that it needs."""
    needs = needs_in(lot)
    places = places_in(lot.names())
    return [sum([1 << places[need] for need in needs[name]]) for name in needs]


def histories(lot):
    """The list of all histories, in THE ORDER."""
    names = lot.names()
    return [[names[place] for place in row] for row in orderings(needed_before(lot))]


def how_many_histories(lot):
    """The number of the histories."""
    return how_many_orderings(needed_before(lot))


def is_history(lot, thing):
    """Whether any object is a history of the lot."""
    if not are_just_names(thing, lot.names()):
        return False
    needs = needs_in(lot)
    places = places_in(thing)
    return all([places[need] < places[name] for name in thing for need in needs[name]])


def parts_of(lot):
    """The names of all parts, in THE ORDER OF CHOICES."""
    names = lot.names()
    parts = [[names[place] for place in numbers_in(mask, len(names))]
             for mask in closed_masks(needed_before(lot))]
    return sorted(parts, key=choice_place)


def how_many_parts(lot):
    """The number of the parts."""
    return len(closed_masks(needed_before(lot)))


def least_alike(lot):
    """The first of the parts, by names, that has the page of the whole lot."""
    putting = [name for name in lot.names() if len(lot.patch_of(name).own_lines()) > 0]
    # Without one of these the lines are others: to make such pages would take most of the time.
    parts = [names for names in parts_of(lot) if all([name in names for name in putting])]
    whole = page_of(lot)
    index = 0
    while page_of(part_of_names(lot, parts[index])) != whole:
        index += 1
    return parts[index]
