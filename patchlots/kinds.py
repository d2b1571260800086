"""The kinds of things that all parts speak of: names, words, lines, orders."""

SIGNS = "abcdefghijklmnopqrstuvwxyz0123456789"


def is_list(thing):
    """Whether a thing may be passed for a list: a string may not."""
    return isinstance(thing, (list, tuple))


def is_integer(thing):
    return isinstance(thing, int) and not isinstance(thing, bool)


def is_number(thing):
    """Whether a thing is an integer from 0 on."""
    return is_integer(thing) and thing >= 0


def is_truth(thing):
    return isinstance(thing, bool)


def is_pair(thing):
    return is_list(thing) and len(thing) == 2


def is_name(thing):
    if not isinstance(thing, str) or not 1 <= len(thing) <= 12:
        return False
    return "a" <= thing[0] <= "z" and all([sign in SIGNS for sign in thing])


def is_words(thing):
    return isinstance(thing, str) and len(thing) <= 200 and "\n" not in thing


def is_line(thing):
    return is_pair(thing) and is_name(thing[0]) and is_number(thing[1])


def line_of(thing):
    """The line, as it is told, that a pair is."""
    return (thing[0], thing[1])


def is_line_of(thing, lines):
    """Whether a thing is a line that stands in a dict."""
    return is_line(thing) and line_of(thing) in lines


def is_order(thing):
    if not is_pair(thing) or not is_line(thing[0]) or not is_line(thing[1]):
        return False
    return line_of(thing[0]) != line_of(thing[1])


def order_of(thing):
    """The order, as it is told, that a pair is."""
    return (line_of(thing[0]), line_of(thing[1]))


def first_false(tests):
    """The index of the first False in a list of truths, None if there is none."""
    for index, test in enumerate(tests):
        if not test:
            return index
    return None


def wrong_words(things):
    """The index of the first thing that is no words, 0 for no list, None if all are."""
    if not is_list(things):
        return 0
    return first_false([is_words(thing) for thing in things])


def wrong_pick(things, lines):
    """The index of the first thing that is no line of a dict, or stood before; 0 for no list."""
    if not is_list(things):
        return 0
    picked = set()
    for index, thing in enumerate(things):
        if not is_line_of(thing, lines) or line_of(thing) in picked:
            return index
        picked.add(line_of(thing))
    return None


def are_just(things, wanted):
    """Whether a thing is a list of just the lines of a dict, each once."""
    return wrong_pick(things, wanted) is None and len(things) == len(wanted)


def are_names(thing):
    """Whether a thing is a list of unlike names."""
    if not is_list(thing) or not all([is_name(name) for name in thing]):
        return False
    return len(set(thing)) == len(thing)


def are_just_names(thing, names):
    """Whether a thing is a list of just these names, in any order, each once."""
    return are_names(thing) and sorted(thing) == sorted(names)


def choice_place(names):
    """What THE ORDER OF CHOICES compares: shorter lists stand ahead."""
    return (len(names), names)


def choices(things):
    """All lists of some of an ascending list of things, ascending, in THE ORDER OF CHOICES."""
    found = [[]]
    for thing in things:
        found = found + [chosen + [thing] for chosen in found]
    return sorted(found, key=choice_place)
