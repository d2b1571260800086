"""The deeds of a house: what any object tells, what refuses it, and what is behind it.

A state of a house is a pair of dicts that nobody changes: hands and marks, with their lots.
"""

from patchlots.clashes import keeping_patch
from patchlots.differences import patch_to
from patchlots.errors import NoHand, NoMark, TakenName
from patchlots.kinds import is_list, is_name, wrong_words
from patchlots.lots import Lot
from patchlots.needs import greatest_without, least_with, lot_with
from patchlots.patches import Patch

# What stands behind the word of each deed; a hand's other one, and a mark's hand, are names, too.
PARTS = {
    "come": ("name",),
    "leave": ("name",),
    "record": ("name", "patch"),
    "type": ("name", "name", "text"),
    "settle": ("name", "name"),
    "fetch": ("name", "name", "some or all"),
    "shed": ("name", "some"),
    "mark": ("name", "name"),
    "unmark": ("name",),
    "take": ("name", "name"),
}


def is_part_told(part, thing):
    """Whether any object is what stands at such a place of a deed."""
    if part == "name":
        return is_name(thing)
    if part == "patch":
        return isinstance(thing, Patch)
    if part == "text":
        return wrong_words(thing) is None
    if part == "some or all" and thing is None:
        return True
    return is_list(thing) and all([is_name(name) for name in thing])


def deed_told(thing):
    """The deed, tuples throughout, that any object is, None if it is none."""
    if not is_list(thing) or len(thing) == 0 or not isinstance(thing[0], str) or thing[0] not in PARTS:
        return None
    parts = PARTS[thing[0]]
    if len(thing) != len(parts) + 1:
        return None
    if not all([is_part_told(part, told) for part, told in zip(parts, thing[1:])]):
        return None
    if thing[0] == "fetch" and thing[1] == thing[2]:
        return None
    return tuple([tuple(told) if is_list(told) else told for told in thing])


def hands_needed(deed):
    """The hands that have to be there for a deed, in their order."""
    if deed[0] in ("come", "unmark"):
        return []
    if deed[0] == "fetch":
        return [deed[1], deed[2]]
    return [deed[2] if deed[0] == "mark" else deed[1]]


def mark_needed(deed):
    """The mark that has to be there for a deed, or None."""
    if deed[0] == "unmark":
        return deed[1]
    return deed[2] if deed[0] == "take" else None


def patch_named(deed):
    """The name of the patch that a deed makes, or None."""
    if deed[0] == "record":
        return deed[2].called()
    return deed[2] if deed[0] in ("type", "settle") else None


def check_names_of(state, deed):
    """TakenName, NoHand, NoMark, then TakenName of a patch that is to be made."""
    hands, marks = state
    if (deed[0] == "come" and deed[1] in hands) or (deed[0] == "mark" and deed[1] in marks):
        raise TakenName(deed[1])
    for hand in hands_needed(deed):
        if hand not in hands:
            raise NoHand(hand)
    mark = mark_needed(deed)
    if mark is not None and mark not in marks:
        raise NoMark(mark)
    name = patch_named(deed)
    if any([name in lot for lot in list(hands.values()) + list(marks.values())]):
        raise TakenName(name)


def lot_behind(state, deed):
    """What a hand's lot is behind a deed that is done to it, or the error of what is asked."""
    hands, marks = state
    lot = hands[deed[1]]
    if deed[0] == "record":
        return lot_with(lot, deed[2])
    if deed[0] == "type":
        return lot_with(lot, patch_to(lot, deed[3], deed[2]))
    if deed[0] == "settle":
        return lot_with(lot, keeping_patch(lot, deed[2]))
    if deed[0] == "shed":
        return greatest_without(lot, deed[2])
    if deed[0] == "take":
        return lot | marks[deed[2]]
    other = hands[deed[2]]
    return lot | (other if deed[3] is None else least_with(other, deed[3]))


def state_behind(state, deed):
    """The state behind a deed that names what is there."""
    hands, marks = state
    if deed[0] in ("leave", "unmark"):
        hands = {name: hands[name] for name in hands if deed[0] != "leave" or name != deed[1]}
        return (hands, {word: marks[word] for word in marks if deed[0] != "unmark" or word != deed[1]})
    hands = {name: hands[name] for name in hands}
    marks = {word: marks[word] for word in marks}
    if deed[0] == "come":
        hands[deed[1]] = Lot([])
    elif deed[0] == "mark":
        marks[deed[1]] = hands[deed[2]]
    else:
        hands[deed[1]] = lot_behind(state, deed)
    return (hands, marks)


def names_changed(state, behind, deed):
    """The pair of the names of the patches that the lot of a deed's hand has got, and has lost."""
    # Marks change no hand's lot, also none of a hand that is called like the mark.
    old = state[0].get(deed[1], Lot([]))
    new = behind[0].get(deed[1], Lot([]))
    return ([name for name in new.names() if name not in old], [name for name in old.names() if name not in new])
