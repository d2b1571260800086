"""The search for the one of some suspects that did wrong, by as few askings as can be."""

from patchlots.askings import (
    answered, asked_masks, check_askings, height_of, left_in, next_asking, start_of,
)
from patchlots.errors import BadAnswers
from patchlots.kinds import first_false, is_list, is_number, is_pair, is_truth


def is_index_of(thing, things):
    """Whether any object is an index of a list."""
    return is_number(thing) and thing < len(things)


def state_behind(suspects, askings, answers, lies):
    """The state behind answers, or BadAnswers."""
    if not is_list(answers):
        raise BadAnswers(0)
    index = first_false([is_pair(thing) and is_index_of(thing[0], askings) and is_truth(thing[1])
                         for thing in answers])
    if index is not None:
        raise BadAnswers(index)
    masks = asked_masks(suspects, askings)
    state = start_of(suspects)
    for asking, answer in answers:
        state = answered(state, masks[asking], answer, lies)
    return state


def possible_ones(suspects, askings, answers, lies=0):
    """The possible suspects behind some answers, in their order."""
    check_askings(suspects, askings, lies)
    return left_in(suspects, state_behind(suspects, askings, answers, lies))


def never_parted(suspects, askings):
    """The first pair of suspects that each asking has both or none of, or None."""
    check_askings(suspects, askings, 0)
    masks = asked_masks(suspects, askings)
    told = [[mask >> place & 1 for mask in masks] for place in range(len(suspects))]
    for place, name in enumerate(suspects):
        for other in range(place + 1, len(suspects)):
            if told[place] == told[other]:
                return (name, suspects[other])
    return None


def is_leaf(suspects, state, thing):
    """Whether any object is a tree that asks nothing more: None, or the one that is possible."""
    left = left_in(suspects, state)
    if thing is None:
        return len(left) == 0
    return isinstance(thing, str) and left == [thing]


def is_search(suspects, askings, thing, lies=0):
    """Whether any object is a tree of askings from no answers on."""
    check_askings(suspects, askings, lies)
    masks = asked_masks(suspects, askings)
    rest = [(start_of(suspects), thing)]
    while len(rest) > 0:
        state, tree = rest.pop()
        if is_list(tree):
            if len(tree) != 3 or not is_index_of(tree[0], askings):
                return False
            rest.append((answered(state, masks[tree[0]], True, lies), tree[1]))
            rest.append((answered(state, masks[tree[0]], False, lies), tree[2]))
        elif not is_leaf(suspects, state, tree):
            return False
    return True


def fewest_askings(suspects, askings, lies=0):
    """The least height of a tree of askings, None if there is none."""
    check_askings(suspects, askings, lies)
    return height_of(asked_masks(suspects, askings), lies, start_of(suspects), {})


def tree_from(suspects, masks, lies, state, known):
    """A tree of askings of the least height from a state on, from which there is one."""
    index = next_asking(masks, lies, state, known)
    if index is None:
        # Behind askings both of whose answers tell something, one at the least is possible.
        return left_in(suspects, state)[0]
    yes, no = [tree_from(suspects, masks, lies, answered(state, masks[index], answer, lies), known)
               for answer in (True, False)]
    return (index, yes, no)


def search(suspects, askings, lies=0):
    """A tree of askings of the least height, None if there is none."""
    check_askings(suspects, askings, lies)
    masks = asked_masks(suspects, askings)
    known = {}
    state = start_of(suspects)
    if height_of(masks, lies, state, known) is None:
        return None
    return tree_from(suspects, masks, lies, state, known)


def ask_next(suspects, askings, answers, lies=0):
    """The index of the first asking that leaves as little height as can be, or None."""
    check_askings(suspects, askings, lies)
    state = state_behind(suspects, askings, answers, lies)
    return next_asking(asked_masks(suspects, askings), lies, state, {})
