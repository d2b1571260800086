"""Pages: lines that say words, some of them dead, and orders between them."""

from patchlots.errors import BadDead, BadLines, BadOrders, BadPick, Unlike
from patchlots.kinds import (
    first_false, is_line, is_line_of, is_list, is_order, is_words, line_of, order_of, wrong_pick,
)


class Page:
    """Lines, each with words, some of them dead, and orders between its lines."""

    def __init__(self, lines, orders, dead):
        self._words = checked_lines(lines)
        self._orders = checked_orders(orders, self._words)
        self._dead = checked_dead(dead, self._words)

    def lines(self):
        """The dict from the lines to their words, in THE ORDER."""
        return {line: self._words[line] for line in self._words}

    def orders(self):
        """The orders, in THE ORDER, each once."""
        return list(self._orders)

    def dead(self):
        """The dead lines, in THE ORDER."""
        return list(self._dead)

    def live(self):
        """The live lines, in THE ORDER."""
        return [line for line in self._words if line not in self._dead]

    def is_within(self, other):
        """Whether lines with their words, orders and dead lines are all of the other page."""
        told = other.lines()
        orders = set(other.orders())
        dead = set(other.dead())
        return (
            all([line in told and told[line] == self._words[line] for line in self._words])
            and all([order in orders for order in self._orders])
            and all([line in dead for line in self._dead])
        )

    def of_lines(self, lines):
        """The page of some of its lines alone, with the orders between them."""
        index = wrong_pick(lines, self._words)
        if index is not None:
            raise BadPick(index)
        picked = {line_of(line): self._words[line_of(line)] for line in lines}
        orders = [(one, other) for one, other in self._orders if one in picked and other in picked]
        return Page(picked, orders, [line for line in self._dead if line in picked])

    def __or__(self, other):
        for line in self._words:
            if line in other._words and other._words[line] != self._words[line]:
                raise Unlike(line)
        words = {line: self._words[line] for line in self._words}
        for line in other._words:
            words[line] = other._words[line]
        return Page(words, self._orders + other._orders, list(self._dead) + list(other._dead))

    def __eq__(self, other):
        return (
            isinstance(other, Page) and self._words == other._words
            and self._orders == other._orders and self._dead == other._dead
        )


def checked_lines(lines):
    """The dict in THE ORDER, or BadLines."""
    if not isinstance(lines, dict):
        raise BadLines(lines)
    for line, words in lines.items():
        if not is_line(line) or not is_words(words):
            raise BadLines(line)
    return {line: lines[line] for line in sorted(lines)}


def checked_orders(orders, lines):
    """The orders of lines of a dict, in THE ORDER, each once, or BadOrders."""
    index = wrong_order(orders, lines)
    if index is not None:
        raise BadOrders(index)
    return sorted({order_of(order) for order in orders})


def wrong_order(orders, lines):
    """The index of the first thing that is no order of lines of a dict, 0 for no list, or None."""
    if not is_list(orders):
        return 0
    return first_false([
        is_order(thing) and line_of(thing[0]) in lines and line_of(thing[1]) in lines
        for thing in orders
    ])


def checked_dead(dead, lines):
    """The dict of True from the dead lines, in THE ORDER, or BadDead."""
    if not is_list(dead):
        raise BadDead(0)
    index = first_false([is_line_of(thing, lines) for thing in dead])
    if index is not None:
        raise BadDead(index)
    return {line: True for line in sorted({line_of(thing) for thing in dead})}
