"""Suspects behind answers: which are possible, and how many askings part them at the least.

A state is a pair of masks of suspects: those with no wrong answer, and those with just one.
"""

from patchlots.errors import BadAskings, BadLies, BadSuspects
from patchlots.kinds import are_names, first_false, is_integer, is_list, is_name


def check_askings(suspects, askings, lies):
    """BadSuspects, then BadAskings, then BadLies."""
    if not is_list(suspects) or len(suspects) == 0:
        raise BadSuspects(0)
    index = first_false([is_name(name) and name not in suspects[:place]
                         for place, name in enumerate(suspects)])
    if index is not None:
        raise BadSuspects(index)
    if not is_list(askings) or len(askings) == 0:
        raise BadAskings(0)
    index = first_false([are_names(names) for names in askings])
    if index is not None:
        raise BadAskings(index)
    if not is_integer(lies) or lies not in (0, 1):
        raise BadLies(lies)


def asked_masks(suspects, askings):
    """For each asking the mask of the suspects that are in it."""
    return [sum([1 << place for place, name in enumerate(suspects) if name in names])
            for names in askings]


def start_of(suspects):
    """The state ahead of all answers."""
    return ((1 << len(suspects)) - 1, 0)


def answered(state, mask, answer, lies):
    """The state behind an answer."""
    none, once = state
    right = mask if answer else ~mask
    return (none & right, (once & right) | (none & ~right if lies == 1 else 0))


def left_in(suspects, state):
    """The possible suspects of a state, in their order."""
    possible = state[0] | state[1]
    return [name for place, name in enumerate(suspects) if possible >> place & 1]


def is_found(state):
    """Whether one suspect at the most is possible."""
    possible = state[0] | state[1]
    return possible & (possible - 1) == 0


def height_with(masks, lies, state, mask, known):
    """The height of a tree that goes on behind one asking, None if there is none, or it leads nowhere."""
    states = [answered(state, mask, answer, lies) for answer in (True, False)]
    # An answer that changes nothing leaves as much to be asked as ahead of it.
    if state in states:
        return None
    heights = [height_of(masks, lies, further, known) for further in states]
    return None if None in heights else max(heights)


def height_of(masks, lies, state, known):
    """The least height of a tree of askings from a state on, None if there is none.

    What is found is kept in known.
    """
    if is_found(state):
        return 0
    if state not in known:
        tried = [height_with(masks, lies, state, mask, known) for mask in masks]
        least = min([height for height in tried if height is not None], default=None)
        known[state] = None if least is None else least + 1
    return known[state]


def next_asking(masks, lies, state, known):
    """The index of the first asking behind which the least height is left, None if none is needed, or helps."""
    height = height_of(masks, lies, state, known)
    if height is None or height == 0:
        return None
    index = 0
    while height_with(masks, lies, state, masks[index], known) != height - 1:
        index += 1
    return index
