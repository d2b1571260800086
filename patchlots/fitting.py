"""What maps between bare pages are found by: for each point the mask of those to which it may go."""

from patchlots.ways import closure, numbers_in, turned


def same_points(one, other):
    """For each point of one the mask of the points of other that say the same, and are dead if it is."""
    told = other.told_words()
    dead = set(other.dead_points())
    mine = set(one.dead_points())
    return [
        sum([1 << place for place, said in enumerate(told)
             if said == words and (point not in mine or place in dead)])
        for point, words in enumerate(one.told_words())
    ]


def spread(mask, masks):
    """The mask of all that the masks of the points in a mask have."""
    found = 0
    for point, further in enumerate(masks):
        if mask >> point & 1:
            found = found | further
    return found


def narrowed(choices, arrows, ahead, behind):
    """The masks of choices without those that leave no choice at the other end of some arrow."""
    left = list(choices)
    again = True
    while again:
        again = False
        for start, end in arrows:
            further = left[end] & spread(left[start], ahead)
            nearer = left[start] & spread(further, behind)
            if further != left[end] or nearer != left[start]:
                again = True
                left[end] = further
                left[start] = nearer
    return left


def is_open(mask):
    """Whether a mask leaves more than one choice."""
    return mask & (mask - 1) != 0


def tied_point(choices, arrows, count):
    """The point of the fewest choices that an arrow ties to another open one, None if none does."""
    tied = {}
    for start, end in arrows:
        if is_open(choices[start]) and is_open(choices[end]):
            tied[start] = len(numbers_in(choices[start], count))
            tied[end] = len(numbers_in(choices[end], count))
    if len(tied) == 0:
        return None
    return min([(many, point) for point, many in tied.items()])[1]


def boxes(one, other):
    """The maps from one bare page to another one, many at once: lists of a mask for each point.

    Each map takes one choice out of each mask of just one list, and each such taking is a map:
    once no two open points are tied, what is left to choose is free.
    """
    count = len(other)
    ahead = closure(count, other.arrows())
    behind = turned(ahead)
    choices = same_points(one, other)
    loops = sum([1 << place for place, mask in enumerate(ahead) if mask >> place & 1])
    for start, end in one.arrows():
        if start == end:
            choices[start] = choices[start] & loops
    arrows = [(start, end) for start, end in one.arrows() if start != end]
    found = []
    rest = [choices]
    while len(rest) > 0:
        masks = narrowed(rest.pop(), arrows, ahead, behind)
        point = tied_point(masks, arrows, count)
        if 0 not in masks and point is None:
            found.append(masks)
        elif 0 not in masks:
            rest.extend([fixed(masks, point, choice) for choice in numbers_in(masks[point], count)])
    return found


def fixed(masks, point, choice):
    """The masks with one choice alone for a point."""
    return masks[:point] + [1 << choice] + masks[point + 1:]


def relations(bare):
    """For each point, for each point, 1 if that one is behind it, 2 more if it is ahead of it."""
    ahead = closure(len(bare), bare.arrows())
    behind = turned(ahead)
    return [[(ahead[point] >> other & 1) + 2 * (behind[point] >> other & 1)
             for other in range(len(bare))] for point in range(len(bare))]


def kinds_in(bare, related):
    """For each point what any likeness keeps of it alone."""
    dead = set(bare.dead_points())
    return [(words, point in dead, related[point][point], sorted(related[point]))
            for point, words in enumerate(bare.told_words())]


class Likening:
    """Two bare pages of as many points, and what is left to choose for a likeness of both."""

    def __init__(self, one, other):
        self._mine = relations(one)
        theirs = relations(other)
        told = kinds_in(other, theirs)
        self._choices = [
            sum([1 << place for place, kind in enumerate(told) if kind == wanted])
            for wanted in kinds_in(one, self._mine)
        ]
        self._fitting = [
            [sum([1 << place for place, worth in enumerate(row) if worth == kind]) for kind in range(4)]
            for row in theirs
        ]

    def choices(self):
        """The masks of what each point may go to, as far as each alone can tell."""
        return list(self._choices)

    def taken(self, masks, point, choice):
        """The masks as they are left once a point goes to a choice."""
        fitting = self._fitting[choice]
        left = [mask & fitting[kind] & ~(1 << choice) for mask, kind in zip(masks, self._mine[point])]
        left[point] = masks[point] & 1 << choice
        return left

    def some_way(self, masks):
        """A list of what each point goes to within these masks, None if there is none."""
        count = len(masks)
        rest = [(masks, list(range(count)))]
        while len(rest) > 0:
            left, points = rest.pop()
            if 0 not in left and len(points) == 0:
                return [numbers_in(mask, count)[0] for mask in left]
            if 0 not in left:
                chosen = min([(len(numbers_in(left[point], count)), point) for point in points])[1]
                further = [point for point in points if point != chosen]
                rest.extend([(self.taken(left, chosen, choice), further)
                             for choice in reversed(numbers_in(left[chosen], count))])
        return None
