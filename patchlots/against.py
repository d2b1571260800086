"""Papers that tell that so many askings are not enough."""

from patchlots.askings import (
    answered, asked_masks, check_askings, height_of, left_in, start_of,
)
from patchlots.errors import BadMany
from patchlots.kinds import is_list, is_number, is_pair, is_truth


def check_many(suspects, askings, many, lies):
    """BadSuspects, BadAskings, BadLies, then BadMany."""
    check_askings(suspects, askings, lies)
    if not is_number(many):
        raise BadMany(many)


def is_enough(masks, lies, state, many, known):
    """Whether some tree of askings from a state on is no higher than many."""
    height = height_of(masks, lies, state, known)
    return height is not None and height <= many


def paper_from(suspects, masks, lies, state, many, known):
    """A paper that so many askings are not enough from a state on, from which they are not."""
    if many == 0:
        return tuple(left_in(suspects, state)[:2])
    paper = []
    for mask in masks:
        further = answered(state, mask, True, lies)
        # Were it enough behind both answers, one more would have been enough ahead of them.
        answer = not is_enough(masks, lies, further, many - 1, known)
        if not answer:
            further = answered(state, mask, False, lies)
        paper.append((answer, paper_from(suspects, masks, lies, further, many - 1, known)))
    return paper


def answers_against(suspects, askings, many, lies=0):
    """A paper that so many askings are not enough, None if they are."""
    check_many(suspects, askings, many, lies)
    masks = asked_masks(suspects, askings)
    state = start_of(suspects)
    known = {}
    if is_enough(masks, lies, state, many, known):
        return None
    return paper_from(suspects, masks, lies, state, many, known)


def are_two_left(suspects, state, thing):
    """Whether any object is a pair of unlike suspects that are possible."""
    left = left_in(suspects, state)
    return is_pair(thing) and thing[0] in left and thing[1] in left and thing[0] != thing[1]


def are_answers(thing, many):
    """Whether any object is a list of so many pairs of a truth and something else."""
    return is_list(thing) and len(thing) == many and all([is_pair(pair) and is_truth(pair[0]) for pair in thing])


def are_against(suspects, askings, many, thing, lies=0):
    """Whether any object is a paper that so many askings are not enough."""
    check_many(suspects, askings, many, lies)
    masks = asked_masks(suspects, askings)
    rest = [(start_of(suspects), many, thing)]
    while len(rest) > 0:
        state, left, paper = rest.pop()
        if left == 0:
            if not are_two_left(suspects, state, paper):
                return False
        elif not are_answers(paper, len(masks)):
            return False
        else:
            rest.extend([(answered(state, mask, answer, lies), left - 1, further)
                         for mask, (answer, further) in zip(masks, paper)])
    return True
