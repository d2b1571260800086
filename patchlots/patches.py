"""Patches: lines put, orders told, lines buried, burials undone."""

from patchlots.errors import BadBacks, BadBurials, BadName, BadOrders, BadTexts
from patchlots.kinds import (
    first_false, is_line, is_list, is_name, is_order, is_pair, line_of, order_of, wrong_words,
)


class Patch:
    """What one hand does to a text at once, called by a name."""

    def __init__(self, name, texts, orders=(), burials=(), backs=()):
        if not is_name(name):
            raise BadName(name)
        index = wrong_words(texts)
        if index is not None:
            raise BadTexts(index)
        self._name = name
        self._texts = list(texts)
        self._orders = checked_orders(name, len(self._texts), orders)
        self._burials = checked_burials(name, burials)
        self._backs = checked_backs(name, backs)
        self._needs = needed_by(name, self._orders, self._burials, self._backs)

    def called(self):
        """Its name."""
        return self._name

    def texts(self):
        """The words of the lines that it puts."""
        return list(self._texts)

    def own_lines(self):
        """The lines that it puts."""
        return [(self._name, number) for number in range(len(self._texts))]

    def orders(self):
        """Its orders, in THE ORDER, each once."""
        return list(self._orders)

    def burials(self):
        """The lines that it buries, in THE ORDER."""
        return list(self._burials)

    def backs(self):
        """The pairs (other, line) of the burials that it undoes, in THE ORDER."""
        return list(self._backs)

    def needs(self):
        """The names of the patches that it needs, ascending."""
        return list(self._needs)

    def __eq__(self, other):
        return (
            isinstance(other, Patch) and self._name == other._name
            and self._texts == other._texts and self._orders == other._orders
            and self._burials == other._burials and self._backs == other._backs
        )


def may_order(name, many, thing):
    """Whether a thing is an order that the patch of this name may tell, putting so many lines."""
    return is_order(thing) and all([line[0] != name or line[1] < many for line in thing])


def may_bury(name, thing):
    """Whether a thing is a line that the patch of this name may bury."""
    return is_line(thing) and thing[0] != name


def may_undo(name, thing):
    """Whether a thing is a pair (other, line) whose burial the patch of this name may undo."""
    if not is_pair(thing) or not is_name(thing[0]) or thing[0] == name:
        return False
    return is_line(thing[1]) and thing[1][0] not in (name, thing[0])


def back_of(thing):
    """The burial undone, as it is told, that a pair is."""
    return (thing[0], line_of(thing[1]))


def checked_orders(name, many, orders):
    """The orders of the patch of this name, in THE ORDER, each once, or BadOrders."""
    if not is_list(orders):
        raise BadOrders(0)
    index = first_false([may_order(name, many, thing) for thing in orders])
    if index is not None:
        raise BadOrders(index)
    return sorted({order_of(order) for order in orders})


def checked_burials(name, burials):
    """The lines that the patch of this name buries, in THE ORDER, or BadBurials."""
    if not is_list(burials):
        raise BadBurials(0)
    found = set()
    for index, thing in enumerate(burials):
        if not may_bury(name, thing) or line_of(thing) in found:
            raise BadBurials(index)
        found.add(line_of(thing))
    return sorted(found)


def checked_backs(name, backs):
    """The burials that the patch of this name undoes, in THE ORDER, or BadBacks."""
    if not is_list(backs):
        raise BadBacks(0)
    found = set()
    for index, thing in enumerate(backs):
        if not may_undo(name, thing) or back_of(thing) in found:
            raise BadBacks(index)
        found.add(back_of(thing))
    return sorted(found)


def needed_by(name, orders, burials, backs):
    """The other patches of whose lines and burials orders, burials and backs tell, ascending."""
    lines = [line for order in orders for line in order] + burials + [line for _, line in backs]
    names = [line[0] for line in lines] + [other for other, _ in backs]
    return sorted({other for other in names if other != name})
