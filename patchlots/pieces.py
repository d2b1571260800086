"""The items of a patch, its partings into pieces, and what holds items together."""

from patchlots.errors import BadCalls, NoItem
from patchlots.kinds import is_integer, is_line, is_list, is_name, line_of
from patchlots.lots import Lot
from patchlots.patches import Patch
from patchlots.renaming import orders_anew, other_patches
from patchlots.ways import nexts_of, places_in, reached, shortest_walk


def items_of(patch):
    """The items of a patch: says, order, bury, back, each kind in THE ORDER."""
    return (
        [("says", number) for number in range(len(patch.texts()))]
        + [("order", one, other) for one, other in patch.orders()]
        + [("bury", line) for line in patch.burials()]
        + [("back", name, line) for name, line in patch.backs()]
    )


def item_told(thing):
    """The item, as it is told, that any object may be, None if it is of no such form."""
    if not is_list(thing) or len(thing) not in (2, 3):
        return None
    if len(thing) == 2:
        if thing[0] == "says" and is_integer(thing[1]):
            return ("says", thing[1])
        return ("bury", line_of(thing[1])) if thing[0] == "bury" and is_line(thing[1]) else None
    if not is_line(thing[2]):
        return None
    if thing[0] == "order" and is_line(thing[1]):
        return ("order", line_of(thing[1]), line_of(thing[2]))
    return ("back", thing[1], line_of(thing[2])) if thing[0] == "back" and is_name(thing[1]) else None


def own_items(patch, order):
    """The items of the own lines that an order of a patch tells."""
    return [("says", number) for name, number in order if name == patch.called()]


def beside_items(patch):
    """The dict from each item to those that hold it: orders and the own lines that they tell."""
    pairs = [(("order", *order), item) for order in patch.orders() for item in own_items(patch, order)]
    return nexts_of(items_of(patch), pairs + [(item, order) for order, item in pairs])


def pieces_of(patch):
    """The parting of the items of a patch into as many lists as can be."""
    beside = beside_items(patch)
    items = list(beside)
    pieces = []
    met = set()
    for item in items:
        if item not in met:
            held = reached(beside, item)
            pieces.append([other for other in items if other == item or other in held])
            for other in pieces[-1]:
                met.add(other)
    return pieces


def is_parting(patch, thing):
    """Whether any object is a parting of the items of a patch."""
    if not is_list(thing) or not all([is_list(some) and len(some) > 0 for some in thing]):
        return False
    told = [[item_told(item) for item in some] for some in thing]
    items = [item for some in told for item in some]
    beside = beside_items(patch)
    if not all([item in beside for item in items]):
        return False
    if len(items) != len(beside) or len(set(items)) != len(items):
        return False
    return all([other in some for some in told for item in some for other in beside[item]])


def item_on(patch, thing):
    """The item of a patch that a thing is, or NoItem."""
    told = item_told(thing)
    if told not in items_of(patch):
        raise NoItem(thing)
    return told


def held_by(patch, one, other):
    """Lines and orders in turn, as few as can be, that hold two items together, or None."""
    first = item_on(patch, one)
    last = item_on(patch, other)
    if first == last:
        return [first]
    return shortest_walk(beside_items(patch), first, last)


def is_held(patch, one, other, thing):
    """Whether any object is a list of lines and orders in turn that hold two items together."""
    first = item_on(patch, one)
    last = item_on(patch, other)
    if not is_list(thing) or len(thing) == 0:
        return False
    told = [item_told(item) for item in thing]
    beside = beside_items(patch)
    if not all([item in beside for item in told]) or told[0] != first or told[-1] != last:
        return False
    return all([told[index] in beside[item] for index, item in enumerate(told[1:])])


def check_calls(lot, name, calls, many):
    """BadCalls, if things are not so many unlike names that no other patch of the lot has."""
    if not is_list(calls):
        raise BadCalls(0)
    for index, called in enumerate(calls):
        if not is_name(called) or called in calls[:index] or (called in lot and called != name):
            raise BadCalls(index)
    if len(calls) != many:
        raise BadCalls(len(calls))


def piece_patch(patch, piece, called, lines):
    """The patch of a piece, called so, lines telling how those of the patch are called."""
    texts = [patch.texts()[item[1]] for item in piece if item[0] == "says"]
    orders = orders_anew([item[1:] for item in piece if item[0] == "order"], lines)
    burials = [item[1] for item in piece if item[0] == "bury"]
    return Patch(called, texts, orders, burials, [item[1:] for item in piece if item[0] == "back"])


def in_pieces(lot, name, called):
    """The lot in which the patches made of its pieces stand for a patch."""
    patch = lot.patch_of(name)
    pieces = pieces_of(patch)
    check_calls(lot, name, called, len(pieces))
    lines = {}
    buriers = {}
    for word, piece in zip(called, pieces):
        numbers = [item[1] for item in piece if item[0] == "says"]
        for number, place in places_in(numbers).items():
            lines[(name, number)] = (word, place)
        for item in piece:
            if item[0] == "bury":
                buriers[(name, item[1])] = word
    made = [piece_patch(patch, piece, word, lines) for word, piece in zip(called, pieces)]
    return Lot(other_patches(lot, [name], lines, buriers) + made)
