"""Changes of texts by places, and how two of them pass one another."""

from patchlots.errors import BadChange, BadWords, NoFit
from patchlots.kinds import is_list, is_number, wrong_words


def is_change(thing):
    """Whether any object is a change."""
    if not is_list(thing) or len(thing) != 3 or not is_number(thing[0]):
        return False
    if wrong_words(thing[1]) is not None or wrong_words(thing[2]) is not None:
        return False
    return len(thing[1]) + len(thing[2]) > 0


def change_of(thing):
    """The change, as it is told, that a thing is, or BadChange."""
    if not is_change(thing):
        raise BadChange(thing)
    return (thing[0], list(thing[1]), list(thing[2]))


def checked_text(text):
    """The list of words that a text is, or BadWords."""
    index = wrong_words(text)
    if index is not None:
        raise BadWords(index)
    return list(text)


def fits(text, change):
    """Whether a change fits a list of words."""
    place, old, _ = change
    return place <= len(text) and text[place:place + len(old)] == old


def put_in(text, change):
    """The list of words that a change makes of one that it fits."""
    place, old, new = change
    return text[:place] + new + text[place + len(old):]


def made_by(text, change):
    """The text that a change makes of a text."""
    words = checked_text(text)
    told = change_of(change)
    if not fits(words, told):
        raise NoFit(change)
    return put_in(words, told)


def turned_back(change):
    """The change that takes a change back."""
    place, old, new = change_of(change)
    return (place, new, old)


def moved(change, by):
    """A change with as many words more ahead of it as another one puts more than it takes."""
    place, old, new = change
    return (place + len(by[2]) - len(by[1]), old, new)


def moved_back(change, by):
    """A change with as many words fewer ahead of it as another one puts more than it takes."""
    place, old, new = change
    return (place - len(by[2]) + len(by[1]), old, new)


def apart(one, two, room):
    """Whether two changes with so many words between them, perhaps less than none, are apart."""
    # Where neither puts words, nobody can ask which of their words stand ahead.
    return room > 0 or (room == 0 and len(one[2]) + len(two[2]) == 0)


def passed(one, two):
    """What two changes, one behind the other, become the other way about, None if they touch."""
    first = change_of(one)
    second = change_of(two)
    if apart(first, second, first[0] - second[0] - len(second[1])):
        return (second, moved(first, second))
    if apart(first, second, second[0] - first[0] - len(first[2])):
        return (moved_back(second, first), first)
    return None


def side_by_side(one, two):
    """What two changes of one text become, each behind the other, None if they touch."""
    first = change_of(one)
    second = change_of(two)
    if apart(first, second, first[0] - second[0] - len(second[1])):
        return (second, moved(first, second))
    if apart(first, second, second[0] - first[0] - len(first[1])):
        return (moved(second, first), first)
    return None
