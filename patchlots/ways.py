"""Ways along arrows: between points of any kind, or by masks between points 0, 1, .."""


def nexts_of(points, arrows):
    """The dict from each point to the list of those to which an arrow leads from it."""
    nexts = {point: [] for point in points}
    for one, other in arrows:
        nexts[one].append(other)
    return nexts


def reached(nexts, start):
    """The dict from each point that one or more arrows lead to from start to the one ahead of it.

    So one comes back along as few arrows as can be. Of several such walks it is the first one, if
    the lists of nexts are ascending: points are met in the order of the first walks to them.
    """
    back = {}
    level = [start]
    while len(level) > 0:
        further = []
        for point in level:
            for other in nexts[point]:
                if other not in back:
                    back[other] = point
                    further.append(other)
        level = further
    return back


def shortest_walk(nexts, start, goal):
    """The points along as few arrows as can be, one or more, from start to goal, or None."""
    back = reached(nexts, start)
    if goal not in back:
        return None
    walk = [goal, back[goal]]
    while walk[-1] != start:
        walk.append(back[walk[-1]])
    return walk[::-1]


def shortest_round(nexts, starts):
    """The first of the shortest lists of points, each leading to the next, the last to the first.

    It begins with one of starts; None if there is none.
    """
    best = None
    for start in starts:
        walk = shortest_walk(nexts, start, start)
        if walk is not None and (best is None or len(walk) <= len(best)):
            best = walk[:-1]
    return best


def closure(count, arrows):
    """For each of so many points the mask of those to which one or more arrows lead."""
    masks = [0 for _ in range(count)]
    for one, other in arrows:
        masks[one] = masks[one] | 1 << other
    for middle in range(count):
        for start in range(count):
            if masks[start] >> middle & 1:
                masks[start] = masks[start] | masks[middle]
    return masks


def turned(masks):
    """For each point the mask of those whose masks have it."""
    count = len(masks)
    return [sum([(masks[other] >> point & 1) << other for other in range(count)])
            for point in range(count)]


def places_in(things):
    """The dict from the things of a list to their indexes."""
    return {thing: index for index, thing in enumerate(things)}


def ways_between(page, lines):
    """For each of all lines of a page, in this order, the mask of those that it is ahead of."""
    places = places_in(lines)
    return closure(len(lines), [(places[one], places[other]) for one, other in page.orders()])


def live_ways(page):
    """The live lines of a page, and for each the mask of those of them that it is ahead of."""
    live = page.live()
    everything = (1 << len(live)) - 1
    return live, [mask & everything for mask in ways_between(page, live + page.dead())[:len(live)]]


def numbers_in(mask, count):
    """The numbers, below count, of a mask, ascending."""
    return [number for number in range(count) if mask >> number & 1]
