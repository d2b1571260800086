"""Patches told anew, where some lines, and those who bury some, are called otherwise.

How lines are called is a dict from lines to lines; how those who bury are called is one from pairs
(name, line) of burials to names. What stands in neither stays as it is.
"""

from patchlots.patches import Patch


def lines_anew(told, lines):
    """Lines as they are called then."""
    return [lines.get(line, line) for line in told]


def orders_anew(orders, lines):
    """Orders, told of lines as they are called then."""
    return [(lines.get(one, one), lines.get(other, other)) for one, other in orders]


def backs_anew(backs, lines, buriers):
    """Burials undone, told of lines, and of those who bury them, as they are called then."""
    return [(buriers.get((name, line), name), lines.get(line, line)) for name, line in backs]


def other_patches(lot, names, lines, buriers):
    """The patches of a lot but for those of some names, told anew."""
    others = [lot.patch_of(name) for name in lot.names() if name not in names]
    return [
        Patch(patch.called(), patch.texts(), orders_anew(patch.orders(), lines),
              lines_anew(patch.burials(), lines), backs_anew(patch.backs(), lines, buriers))
        for patch in others
    ]
