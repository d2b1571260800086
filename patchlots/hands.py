"""Hands that have lots, pulls between them, and what comes of pulls."""

from patchlots.errors import BadHands, BadPull, NoHand, Parted
from patchlots.kinds import choices, first_false, is_list, is_name, is_pair
from patchlots.lots import Lot
from patchlots.ways import places_in


class Hands:
    """Hands, called by names, each with a lot."""

    def __init__(self, kept):
        self._lots = checked_hands(kept)
        check_all_parted(self._lots)
        self._whole = together_of(list(self._lots.values()))

    def lots_told(self):
        """The dict from hands to lots, ascending."""
        return {name: self._lots[name] for name in self._lots}

    def whole_lot(self):
        """The lot of all."""
        return self._whole

    def behind_pulls(self, pulls):
        """The hands behind a list of pulls, one done behind the other."""
        if not is_list(pulls):
            raise BadPull(0)
        index = first_false([is_pull(pull, self._lots) for pull in pulls])
        if index is not None:
            raise BadPull(index)
        lots = {name: self._lots[name] for name in self._lots}
        for one, other in pulls:
            lots[one] = lots[one] | lots[other]
        return Hands(lots)

    def __eq__(self, other):
        return isinstance(other, Hands) and self._lots == other._lots


def checked_hands(kept):
    """The dict from names to lots, ascending, or BadHands."""
    if not isinstance(kept, dict) or len(kept) == 0:
        raise BadHands(kept)
    for name, lot in kept.items():
        if not is_name(name) or not isinstance(lot, Lot):
            raise BadHands(name)
    return {name: kept[name] for name in sorted(kept)}


def check_all_parted(lots):
    """Parted for the first name that calls unlike patches in two lots of a dict."""
    first = {}
    parted = []
    for lot in lots.values():
        for name in lot.names():
            patch = lot.patch_of(name)
            if first.get(name, patch) != patch:
                parted.append(name)
            first[name] = first.get(name, patch)
    if len(parted) > 0:
        raise Parted(min(parted))


def is_pull(thing, lots):
    """Whether any object is a pair of unlike hands."""
    if not is_pair(thing) or not is_name(thing[0]) or not is_name(thing[1]):
        return False
    return thing[0] in lots and thing[1] in lots and thing[0] != thing[1]


def together_of(lots):
    """The lot of all patches of some lots, in which a name calls one patch."""
    whole = Lot([])
    for lot in lots:
        whole = whole | lot
    return whole


def check_hand(lots, name):
    """NoHand for any object that is none of the hands of a dict."""
    if not is_name(name) or name not in lots:
        raise NoHand(name)


def gatherings(hands, name):
    """The pairs (gathering, lot) of a hand, for each list of others, in THE ORDER OF CHOICES."""
    lots = hands.lots_told()
    check_hand(lots, name)
    others = [other for other in lots if other != name]
    return [(some, together_of([lots[name]] + [lots[other] for other in some])) for some in choices(others)]


def comes_to(hands, name):
    """The pairs (names, gathering) of the lots to which a hand comes, by their first gatherings."""
    found = {}
    for gathering, lot in gatherings(hands, name):
        told = tuple(lot.names())
        if told not in found:
            found[told] = gathering
    return [(list(told), gathering) for told, gathering in found.items()]


def pulled(state, one, other):
    """The state behind a pull: for each hand the mask of the patches that it has."""
    return tuple([mask | state[other] if place == one else mask for place, mask in enumerate(state)])


def pulls_back(start, goal):
    """The dict from states to the state ahead of each and the pull that led on, at least to the goal."""
    count = len(start)
    pulls = [(one, other) for one in range(count) for other in range(count) if one != other]
    back = {start: None}
    level = [start]
    while goal not in back:
        further = []
        for state in level:
            for one, other in pulls:
                behind = pulled(state, one, other)
                if behind not in back:
                    back[behind] = (state, (one, other))
                    further.append(behind)
        level = further
    return back


def enough_pulls(hands):
    """A list of as few pulls as can be behind which all hands have the whole lot."""
    lots = hands.lots_told()
    names = list(lots)
    places = places_in(hands.whole_lot().names())
    start = tuple([sum([1 << places[patch] for patch in lots[name].names()]) for name in names])
    goal = tuple([(1 << len(places)) - 1 for _ in names])
    back = pulls_back(start, goal)
    pulls = []
    state = goal
    while back[state] is not None:
        state, (one, other) = back[state]
        pulls.append((names[one], names[other]))
    return pulls[::-1]
