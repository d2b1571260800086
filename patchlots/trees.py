"""Trees of files: entries, placings of them that replace one another, what reads and what troubles."""

from patchlots.errors import (
    BadEntries, BadPlacings, NoEntry, OldRing, UnlikeEntry, UnlikeMark, Unplaced,
)
from patchlots.kinds import is_line, is_line_of, is_list, is_name, is_pair, line_of
from patchlots.pages import checked_dead
from patchlots.ways import nexts_of, reached

KINDS = ("directory", "file")


class FileTree:
    """Entries, some of them dead, and placings that tell where they are."""

    def __init__(self, entries, placings, dead):
        self._kinds = checked_entries(entries)
        self._placings = checked_placings(self._kinds, placings)
        check_old_rings(self._placings)
        check_placed(entries, self._placings)
        self._dead = checked_dead(dead, self._kinds)

    def entries(self):
        """The dict from the entries to their kinds, in THE ORDER."""
        return {entry: self._kinds[entry] for entry in self._kinds}

    def placings(self):
        """The dict from the marks to the triples (entry, place, olds), in THE ORDER."""
        return {mark: (entry, place, list(olds))
                for mark, (entry, place, olds) in self._placings.items()}

    def dead(self):
        """The dead entries, in THE ORDER."""
        return list(self._dead)

    def alive(self):
        """The other entries, in THE ORDER."""
        return [entry for entry in self._kinds if entry not in self._dead]

    def places_of(self, entry):
        """The places of an entry, None ahead of directories, then in THE ORDER."""
        if not is_line_of(entry, self._kinds):
            raise NoEntry(entry)
        return list(places_told(self._placings)[line_of(entry)])

    def __or__(self, other):
        for entry, kind in self._kinds.items():
            if entry in other._kinds and other._kinds[entry] != kind:
                raise UnlikeEntry(entry)
        for mark, told in self._placings.items():
            if mark in other._placings and other._placings[mark] != told:
                raise UnlikeMark(mark)
        kinds = {entry: self._kinds[entry] for entry in self._kinds}
        for entry in other._kinds:
            kinds[entry] = other._kinds[entry]
        placings = {mark: self._placings[mark] for mark in self._placings}
        for mark in other._placings:
            placings[mark] = other._placings[mark]
        return FileTree(kinds, placings, list(self._dead) + list(other._dead))

    def __eq__(self, other):
        return (
            isinstance(other, FileTree) and self._kinds == other._kinds
            and self._placings == other._placings and self._dead == other._dead
        )


def checked_entries(entries):
    """The dict from entries to kinds, in THE ORDER, or BadEntries."""
    if not isinstance(entries, dict):
        raise BadEntries(entries)
    for entry, kind in entries.items():
        if not is_line(entry) or kind not in KINDS:
            raise BadEntries(entry)
    return {entry: entries[entry] for entry in sorted(entries)}


def is_place(kinds, thing):
    """Whether any object is a place: the root or a directory, and a name."""
    if not is_pair(thing) or not is_name(thing[1]):
        return False
    if thing[0] is None:
        return True
    return is_line_of(thing[0], kinds) and kinds[line_of(thing[0])] == "directory"


def is_placing_of(entry, thing):
    """Whether any object is a triple with this entry first."""
    return is_list(thing) and len(thing) == 3 and is_line(thing[0]) and line_of(thing[0]) == entry


def are_olds(placings, mark, entry, olds):
    """Whether any object is a list of unlike marks of other placings of an entry."""
    if not is_list(olds) or not all([is_line_of(old, placings) for old in olds]):
        return False
    told = [line_of(old) for old in olds]
    if len(set(told)) != len(told) or mark in told:
        return False
    return all([is_placing_of(entry, placings[old]) for old in told])


def is_placing(kinds, placings, mark, thing):
    """Whether any object is the triple of a mark."""
    if not is_list(thing) or len(thing) != 3 or not is_line_of(thing[0], kinds):
        return False
    return is_place(kinds, thing[1]) and are_olds(placings, mark, line_of(thing[0]), thing[2])


def place_in_tree(thing):
    """The place, as it is told, that a pair is."""
    return (None if thing[0] is None else line_of(thing[0]), thing[1])


def place_key(place):
    """What places are ordered by: None ahead of directories."""
    return ((), place[1]) if place[0] is None else place


def checked_placings(kinds, placings):
    """The dict from marks to triples, in THE ORDER, olds as ascending lists, or BadPlacings."""
    if not isinstance(placings, dict):
        raise BadPlacings(placings)
    for mark, thing in placings.items():
        if not is_line(mark) or not is_placing(kinds, placings, mark, thing):
            raise BadPlacings(mark)
    told = {}
    for mark in sorted(placings):
        entry, place, olds = placings[mark]
        told[mark] = (line_of(entry), place_in_tree(place), sorted([line_of(old) for old in olds]))
    return told


def check_old_rings(placings):
    """OldRing for the least mark from which one comes back to it by what is replaced."""
    nexts = {mark: olds for mark, (_, _, olds) in placings.items()}
    for mark in nexts:
        if mark in reached(nexts, mark):
            raise OldRing(mark)


def check_placed(entries, placings):
    """Unplaced for the first entry that has no placing."""
    placed = {entry: True for entry, _, _ in placings.values()}
    for entry in entries:
        if entry not in placed:
            raise Unplaced(entry)


def places_told(placings):
    """The dict from entries to the places that are told by placings that none replaces."""
    replaced = {old: True for _, _, olds in placings.values() for old in olds}
    told = {entry: [] for entry, _, _ in placings.values()}
    for mark, (entry, place, _) in placings.items():
        if mark not in replaced and place not in told[entry]:
            told[entry].append(place)
    return {entry: sorted(places, key=place_key) for entry, places in told.items()}


def live_places(tree):
    """The dict from the live entries, in THE ORDER, to the lists of their places."""
    told = places_told(tree.placings())
    return {entry: told[entry] for entry in tree.alive()}


def path_told(places, entry):
    """The words from the root to a live entry that has one place, None if it does not come there."""
    path = []
    above = entry
    while above in places and len(path) < len(places):
        above, word = places[above][0]
        path.append(word)
    return tuple(path[::-1]) if above is None else None


def paths_in(places):
    """The dict from live entries to their paths, None if one has not one place, its own, or comes not to the root."""
    told = [place for entry in places for place in places[entry]]
    if len(told) > len(places) or len(set(told)) < len(places):
        return None
    paths = {entry: path_told(places, entry) for entry in places}
    if any([paths[entry] is None for entry in paths]):
        return None
    return paths


def paths_of(tree):
    """The dict from the live entries to their paths from the root on, None if the tree does not read."""
    return paths_in(live_places(tree))


def lost_in(places):
    """Those of the live entries that stand in a dead directory."""
    return [entry for entry, told in places.items()
            if any([above is not None and above not in places for above, _ in told])]


def rounds_from(nexts, start):
    """The lists of unlike points, start the least of them, each leading to the next, the last to it."""
    later = {point: [other for other in others if other >= start]
             for point, others in nexts.items() if point >= start}
    found = []
    rows = [[start]]
    while len(rows) > 0:
        row = rows.pop()
        if start in later[row[-1]]:
            found.append(row)
        # Rows that cannot come back any more would be many, where rounds are few.
        free = {point: [other for other in later[point] if other not in row[1:]] for point in later}
        rows.extend([row + [other] for other in free[row[-1]]
                     if other != start and start in reached(free, other)])
    return found


def troubles(tree):
    """The list of all troubles of a tree: places, lost, same, round, each in THE ORDER."""
    places = live_places(tree)
    live = list(places)
    inside = [(entry, above) for entry in live for above, _ in places[entry] if above is not None]
    several = [("places", entry) for entry in live if len(places[entry]) > 1]
    lost = [("lost", entry) for entry in lost_in(places)]
    same = [("same", one, other) for index, one in enumerate(live) for other in live[index + 1:]
            if any([place in places[other] for place in places[one]])]
    nexts = nexts_of(live, sorted({pair for pair in inside if pair[1] in places}))
    rounds = sorted([row for start in live for row in rounds_from(nexts, start)])
    return several + lost + same + [("round", *row) for row in rounds]
