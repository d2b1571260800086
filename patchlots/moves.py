"""The fewest moves by which a tree of files reads, and the claims that show that fewer won't do."""

from patchlots.kinds import choices, is_integer, is_line_of, is_list, is_pair, line_of
from patchlots.trees import live_places, lost_in, paths_in
from patchlots.ways import shortest_walk


def moved_surely(places):
    """The live entries that have several places, or are lost."""
    lost = lost_in(places)
    return [entry for entry, told in places.items() if len(told) > 1 or entry in lost]


def crowds_in(places):
    """The lists of two or more others whose one place is the same."""
    moved = moved_surely(places)
    at = {}
    for entry, told in places.items():
        if entry not in moved:
            at[told[0]] = at.get(told[0], []) + [entry]
    return [crowd for crowd in at.values() if len(crowd) > 1]


def plain_rounds(places):
    """The rounds, as ascending lists, whose entries have one place each."""
    above = {entry: told[0][0] for entry, told in places.items() if len(told) == 1}
    nexts = {entry: [above[entry]] if above[entry] in above else [] for entry in above}
    found = []
    for entry in nexts:
        walk = shortest_walk(nexts, entry, entry)
        if walk is not None and min(walk) == entry:
            found.append(sorted(walk[1:]))
    return found


def claims(tree):
    """Claims whose numbers have the greatest sum."""
    places = live_places(tree)
    crowds = crowds_in(places)
    crowded = [entry for crowd in crowds for entry in crowd]
    # A crowd wants all but one moved, and may then choose so that a round through it ends, too.
    free = [row for row in plain_rounds(places) if not any([entry in crowded for entry in row])]
    return (
        [([entry], 1) for entry in moved_surely(places)]
        + [(crowd, len(crowd) - 1) for crowd in crowds] + [(row, 1) for row in free]
    )


def is_claim(places, thing):
    """Whether any object is a pair that may stand among claims."""
    if not is_pair(thing) or not is_list(thing[0]) or not is_integer(thing[1]):
        return False
    if len(thing[0]) == 0 or not all([is_line_of(entry, places) for entry in thing[0]]):
        return False
    told = [line_of(entry) for entry in thing[0]]
    if told != sorted(set(told)):
        return False
    moved = moved_surely(places)
    if any([entry in moved for entry in told]):
        return len(told) == 1 and thing[1] == 1
    if thing[1] == 1 and told in plain_rounds(places):
        return True
    here = places[told[0]]
    return len(told) > 1 and thing[1] == len(told) - 1 and all([places[entry] == here for entry in told])


def are_claims(tree, thing):
    """Whether any object is a list of claims."""
    places = live_places(tree)
    if not is_list(thing) or not all([is_claim(places, claim) for claim in thing]):
        return False
    told = [line_of(entry) for entries, _ in thing for entry in entries]
    return len(set(told)) == len(told)


def reads_moved(places, moved):
    """Whether a tree with these places reads behind moves of some entries to the root."""
    # An entry is a word that nobody has.
    behind = {entry: [(None, entry)] if entry in moved else places[entry] for entry in places}
    return paths_in(behind) is not None


def fewest_moves(tree):
    """The least list of live entries behind whose moves to the root the tree reads."""
    places = live_places(tree)
    moved = moved_surely(places)
    others = [entry for row in crowds_in(places) + plain_rounds(places) for entry in row]
    lists = choices(sorted(set(others)))
    index = 0
    while not reads_moved(places, moved + lists[index]):
        index += 1
    return sorted(moved + lists[index])
