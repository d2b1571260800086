"""Lots: sets of patches that have all that they need, and the one page that each makes."""

from patchlots.errors import BadPatches, Lacks, NoPatch, Parted, Round
from patchlots.kinds import is_list
from patchlots.pages import Page
from patchlots.patches import Patch
from patchlots.reading import line_on
from patchlots.ways import shortest_round


class Lot:
    """A set of patches of unlike names."""

    def __init__(self, patches):
        self._patches = checked_patches(patches)
        check_lacks(self._patches)
        check_rounds(self._patches)

    def names(self):
        """The names of its patches, ascending."""
        return list(self._patches)

    def patch_of(self, name):
        """The patch called so."""
        if name not in self:
            raise NoPatch(name)
        return self._patches[name]

    def is_part(self, other):
        """Whether all its patches are of the other lot."""
        theirs = other._patches
        return all([name in theirs and theirs[name] == patch
                    for name, patch in self._patches.items()])

    def __contains__(self, name):
        return isinstance(name, str) and name in self._patches

    def __len__(self):
        return len(self._patches)

    def __or__(self, other):
        check_parted(self, other)
        mine = list(self._patches.values())
        return Lot(mine + [patch for name, patch in other._patches.items() if name not in self])

    def __and__(self, other):
        check_parted(self, other)
        return Lot([patch for name, patch in self._patches.items() if name in other])

    def __eq__(self, other):
        return isinstance(other, Lot) and self._patches == other._patches


def checked_patches(patches):
    """The dict from names to patches, ascending, or BadPatches."""
    if not is_list(patches):
        raise BadPatches(0)
    found = {}
    for index, patch in enumerate(patches):
        if not isinstance(patch, Patch) or patch.called() in found:
            raise BadPatches(index)
        found[patch.called()] = patch
    return {name: found[name] for name in sorted(found)}


def lacking(patches):
    """The pair of the first patch that tells what is not there, and of the first such thing, or None."""
    put = {line: True for patch in patches.values() for line in patch.own_lines()}
    for name, patch in patches.items():
        ordered = [line for order in patch.orders() for line in order]
        for line in ordered + patch.burials():
            if line not in put:
                return (name, line)
        for other, line in patch.backs():
            if other not in patches or line not in patches[other].burials():
                return (name, (other, line))
    return None


def check_lacks(patches):
    """Lacks for the first patch that tells what is not there, and for the first such thing."""
    told = lacking(patches)
    if told is not None:
        raise Lacks(told[0], told[1])


def check_rounds(patches):
    """Round for the first list of names each of which needs the next, the last the first."""
    names = shortest_round({name: patch.needs() for name, patch in patches.items()}, list(patches))
    if names is not None:
        raise Round(names)


def check_parted(one, other):
    """Parted for the first name that calls unlike patches in two lots."""
    for name, patch in one._patches.items():
        if name in other and other._patches[name] != patch:
            raise Parted(name)


def page_of(lot):
    """The page of all lines and orders of a lot, what is buried and not brought back being dead."""
    patches = [lot.patch_of(name) for name in lot.names()]
    undone = {back: True for patch in patches for back in patch.backs()}
    lines = {}
    orders = []
    dead = []
    for patch in patches:
        for line, words in zip(patch.own_lines(), patch.texts()):
            lines[line] = words
        orders.extend(patch.orders())
        dead.extend([line for line in patch.burials() if (patch.called(), line) not in undone])
    return Page(lines, orders, dead)


def burials_at(lot, line):
    """The dict from those who bury a line to the lists of those who undo this burial."""
    told = line_on(page_of(lot), line)
    patches = [lot.patch_of(name) for name in lot.names()]
    return {
        patch.called(): [other.called() for other in patches
                         if (patch.called(), told) in other.backs()]
        for patch in patches if told in patch.burials()
    }
