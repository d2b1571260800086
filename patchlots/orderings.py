"""Orderings of the numbers 0, 1, .., told by masks of those that have to stand ahead of each."""


def can_come(before, mask):
    """The numbers that a mask lacks, and all whose masks it has, ascending."""
    return [number for number, needed in enumerate(before)
            if not mask >> number & 1 and needed & ~mask == 0]


def orderings(before):
    """The list of all lists of all numbers, each behind those of its mask, as Python orders lists.

    Nothing may need itself, by however many steps: so each beginning goes on to some end, and
    there are never more beginnings than ends.
    """
    found = [([], 0)]
    for _ in before:
        found = [(row + [number], mask | 1 << number)
                 for row, mask in found for number in can_come(before, mask)]
    return [row for row, _ in found]


def how_many_orderings(before):
    """The number of such lists."""
    counts = {0: 1}
    for _ in before:
        grown = {}
        for mask, many in counts.items():
            for number in can_come(before, mask):
                further = mask | 1 << number
                grown[further] = grown.get(further, 0) + many
        counts = grown
    return sum(list(counts.values()))


def closed_masks(before):
    """The masks that have, with each of their numbers, all those of its mask."""
    found = [0]
    level = [0]
    while len(level) > 0:
        level = sorted({mask | 1 << number for mask in level for number in can_come(before, mask)})
        found.extend(level)
    return found
