"""Chains of points 0, 1, .. in a strict order, which is told by the masks of those behind each."""

from patchlots.ways import numbers_in


def sums_from(masks, worths):
    """For each point the greatest sum of worths of a chain that begins with it."""
    sums = [0 for _ in masks]
    # A point has in its mask all that those behind it have, and them: so lesser masks come first.
    for _, point in sorted([(mask, point) for point, mask in enumerate(masks)]):
        behind = [sums[other] for other in numbers_in(masks[point], len(masks))]
        sums[point] = worths[point] + max(behind, default=0)
    return sums


def richest_chain(masks, worths):
    """The first chain, as Python orders lists, of the greatest sum of worths that ends at an end."""
    sums = sums_from(masks, worths)
    points = list(range(len(masks)))
    chain = []
    while len(points) > 0:
        greatest = max([sums[point] for point in points])
        chain.append([point for point in points if sums[point] == greatest][0])
        points = numbers_in(masks[chain[-1]], len(masks))
    return chain


def is_chain(masks, points):
    """Whether each of some points is ahead of the next."""
    return all([masks[points[index]] >> point & 1 == 1 for index, point in enumerate(points[1:])])


def is_loose(masks, points):
    """Whether none of some points is ahead of another one."""
    together = sum([1 << point for point in points])
    return all([masks[point] & together == 0 for point in points])


def alternating(masks, ahead, starts):
    """The dict of points that can get another one ahead of them, as starts get one behind them.

    Ahead tells, of those that have it, the one that is next ahead of them in their chain. Each
    point of the dict goes to the one that it would get: whose own next one is let go, if it had it.
    """
    came = {}
    level = starts
    while len(level) > 0:
        further = []
        for point in level:
            for other in numbers_in(masks[point], len(masks)):
                if other not in came:
                    came[other] = point
                    if other in ahead:
                        further.append(ahead[other])
        level = further
    return came


def linked(masks):
    """The dicts from points to the next one ahead, and the next one behind, in the fewest chains."""
    ahead = {}
    behind = {}
    for start in range(len(masks)):
        came = alternating(masks, ahead, [start])
        ends = [point for point in came if point not in ahead]
        point = ends[0] if len(ends) > 0 else None
        while point is not None:
            other = came[point]
            let_go = behind.get(other)
            ahead[point] = other
            behind[other] = point
            point = let_go
    return ahead, behind


def fewest_chains(masks):
    """As few chains as can be, each point being in just one."""
    ahead, behind = linked(masks)
    chains = []
    for start in range(len(masks)):
        if start not in ahead:
            chain = [start]
            while chain[-1] in behind:
                chain.append(behind[chain[-1]])
            chains.append(chain)
    return chains


def most_loose(masks):
    """As many points as can be, ascending, none of which is ahead of another one."""
    ahead, behind = linked(masks)
    ends = [point for point in range(len(masks)) if point not in behind]
    came = alternating(masks, ahead, ends)
    # Each of these stands in a chain of its own, as no chain could get one more link.
    return sorted({point for point in ends + [ahead[other] for other in came] if point not in came})
