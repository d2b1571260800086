"""Houses as texts."""

from patchlots.errors import BadText
from patchlots.hands import together_of
from patchlots.houses import house_of
from patchlots.kinds import is_name
from patchlots.lots import Lot
from patchlots.lottexts import took_row, write_lot
from patchlots.needs import needs_in, part_of_names
from patchlots.pagetexts import rows_told
from patchlots.patches import Patch

# In which order the kinds of rows stand behind those of the lot.
KINDS = ("hand", "mark")


def row_of(kind, name, lot):
    """The row of a hand or a mark."""
    return " ".join([kind, name] + lot.names()) + "\n"


def write_house(house):
    """The text of a house."""
    hands = house.hands()
    marks = house.marks()
    whole = together_of(list(hands.values()) + list(marks.values()))
    rows = [row_of("hand", name, lot) for name, lot in hands.items()]
    rows.extend([row_of("mark", word, lot) for word, lot in marks.items()])
    return write_lot(whole) + "".join(rows)


def holder_told(row):
    """The triple (kind, name, names) of a row of a hand or a mark, None if it is not so written."""
    words = row.split(" ")
    if len(words) < 2 or words[0] not in KINDS or not all([is_name(word) for word in words[1:]]):
        return None
    names = words[2:]
    return (words[0], words[1], names) if names == sorted(set(names)) else None


def is_behind(holders, told):
    """Whether a hand or a mark stands behind those ahead: hands first, each kind ascending."""
    return len(holders) == 0 or holders[-1][1][:2] < told[:2]


def parts_told(text):
    """The drafts of a text's patches and the triples of its holders, both with the indexes of their rows.

    BadText for the first row that is not so written, or stands not behind the one ahead.
    """
    if not isinstance(text, str):
        raise BadText(0)
    drafts = []
    firsts = []
    holders = []
    for index, row in enumerate(rows_told(text)):
        told = holder_told(row)
        if told is not None:
            if not is_behind(holders, told):
                raise BadText(index)
            holders.append((index, told))
        elif len(holders) > 0 or not took_row(drafts, row):
            raise BadText(index)
        elif len(drafts) > len(firsts):
            firsts.append(index)
    return drafts, firsts, holders


def check_parts(lot, firsts, holders):
    """BadText for the first holder of no part of the lot, then for the first patch that none has."""
    needs = needs_in(lot)
    had = set()
    for index, (_, _, names) in holders:
        if not all([name in lot and all([need in names for need in needs[name]]) for name in names]):
            raise BadText(index)
        for name in names:
            had.add(name)
    for index, name in zip(firsts, lot.names()):
        if name not in had:
            raise BadText(index)


def read_house(text):
    """The house that has a text, with no deed done."""
    drafts, firsts, holders = parts_told(text)
    lot = Lot([Patch(*draft) for draft in drafts])
    check_parts(lot, firsts, holders)
    lots = [(kind, name, part_of_names(lot, names)) for _, (kind, name, names) in holders]
    return house_of({name: part for kind, name, part in lots if kind == "hand"},
                    {name: part for kind, name, part in lots if kind == "mark"})
