"""Runs of changes by places, and what they become as neighbours pass one another."""

from patchlots.errors import BadIndex, BadList, BadStep
from patchlots.kinds import are_just_names, is_integer, is_list, is_name, is_pair
from patchlots.places import change_of, checked_text, fits, is_change, passed, put_in, side_by_side
from patchlots.ways import places_in


def steps_of(text, run, taken):
    """The steps of a run for a list of words, as they are told, or BadStep.

    Taken are names that its steps may not have.
    """
    if not is_list(run):
        raise BadStep(0)
    steps = []
    names = list(taken)
    words = text
    for index, thing in enumerate(run):
        if not is_pair(thing) or not is_name(thing[0]) or thing[0] in names:
            raise BadStep(index)
        if not is_change(thing[1]) or not fits(words, change_of(thing[1])):
            raise BadStep(index)
        change = change_of(thing[1])
        steps.append((thing[0], change))
        names.append(thing[0])
        words = put_in(words, change)
    return steps


def names_of(steps):
    return [name for name, _ in steps]


def text_behind(text, run):
    """The text that all steps of a run make of a text."""
    words = checked_text(text)
    for _, change in steps_of(words, run, []):
        words = put_in(words, change)
    return words


def turned_at(steps, index):
    """The steps with the one at an index and the next one passed, None if they touch."""
    one, first = steps[index]
    other, second = steps[index + 1]
    pair = passed(first, second)
    if pair is None:
        return None
    return steps[:index] + [(other, pair[0]), (one, pair[1])] + steps[index + 2:]


def passed_at(text, run, index):
    """The run in which the steps with this index and the next one have passed, or None."""
    steps = steps_of(checked_text(text), run, [])
    if not is_integer(index) or not 0 <= index < len(steps) - 1:
        raise BadIndex(index)
    return turned_at(steps, index)


def leads_of(steps):
    """The lists of steps that come of one by passes, itself too, each once."""
    found = {tuple(names_of(steps)): steps}
    level = [steps]
    while len(level) > 0:
        further = []
        for told in level:
            for index in range(len(told) - 1):
                other = turned_at(told, index)
                if other is not None and tuple(names_of(other)) not in found:
                    found[tuple(names_of(other))] = other
                    further.append(other)
        level = further
    return list(found.values())


def all_leads(text, run):
    """The lists of the names of the runs to which a run leads, in THE ORDER."""
    return sorted([names_of(steps) for steps in leads_of(steps_of(checked_text(text), run, []))])


def stuck_pairs(text, run):
    """The pairs of names, in THE ORDER, that stand so in all runs to which a run leads."""
    leads = all_leads(text, run)
    places = [places_in(names) for names in leads]
    names = sorted(leads[0])
    return [(one, other) for one in names for other in names
            if all([place[one] < place[other] for place in places])]


def led(text, run, names):
    """The pair of the indexes of as few passes as can be, and of the steps that they lead to.

    Steps have the order of a list of names. None if no passes lead there: a pair of neighbours
    that touch stands so in all runs to which a run leads, so it may not stand the other way about.
    """
    steps = steps_of(checked_text(text), run, [])
    if not are_just_names(names, names_of(steps)):
        raise BadList(names)
    places = places_in(names)
    indexes = []
    astray = first_astray(steps, places)
    while astray is not None:
        steps = turned_at(steps, astray)
        if steps is None:
            return None
        indexes.append(astray)
        astray = first_astray(steps, places)
    return (indexes, steps)


def first_astray(steps, places):
    """The index of the first step that stands ahead of the next and should not, or None."""
    for index in range(len(steps) - 1):
        if places[steps[index][0]] > places[steps[index + 1][0]]:
            return index
    return None


def led_to(text, run, names):
    """The run with its steps in the order of a list of names, None if it does not lead there."""
    found = led(text, run, names)
    return None if found is None else found[1]


def fewest_passes(text, run, names):
    """The indexes of as few passes as can be by which a run leads to it, None if it does not."""
    found = led(text, run, names)
    return None if found is None else found[0]


def put_beside(text, run, other):
    """What another run for the same text becomes behind a run, None if two changes touch."""
    words = checked_text(text)
    steps = steps_of(words, run, [])
    beside = steps_of(words, other, names_of(steps))
    changes = [change for _, change in steps]
    found = []
    for name, change in beside:
        turned = []
        for mine in changes:
            pair = side_by_side(mine, change)
            if pair is None:
                return None
            change = pair[0]
            turned.append(pair[1])
        changes = turned
        found.append((name, change))
    return found
