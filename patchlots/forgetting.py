"""Which dead lines a hand can forget, and pages without them."""

from patchlots.coming import can_live
from patchlots.errors import BadForget, NoLine, OnRing
from patchlots.hands import check_hand
from patchlots.kinds import is_line_of, line_of, wrong_pick
from patchlots.lots import page_of
from patchlots.pages import Page
from patchlots.reading import lines_behind
from patchlots.ways import places_in, reached


def lines_told(patch):
    """The lines that a patch tells: those of its orders, burials and backs."""
    return (
        [line for order in patch.orders() for line in order]
        + patch.burials() + [line for _, line in patch.backs()]
    )


def why_told(hands, name, line):
    """Why a line of a hand's lot is kept, None if it can be forgotten."""
    living = can_live(hands, line)
    if living is not None:
        return ("live", living)
    lot = hands.lots_told()[name]
    whole = hands.whole_lot()
    for other in whole.names():
        if other not in lot and line in lines_told(whole.patch_of(other)):
            return ("told", other)
    return None


def why_kept(hands, name, line):
    """Why a hand keeps a line: who sees it live, or a patch to come that tells it; or None."""
    lots = hands.lots_told()
    check_hand(lots, name)
    if not is_line_of(line, page_of(lots[name]).lines()):
        raise NoLine(line)
    return why_told(hands, name, line_of(line))


def forgettable(hands, name):
    """All lines that a hand can forget, in THE ORDER."""
    lots = hands.lots_told()
    check_hand(lots, name)
    return [line for line in page_of(lots[name]).dead() if why_told(hands, name, line) is None]


def page_without(page, lines):
    """The page without some dead lines, the ways through them being orders."""
    index = wrong_pick(lines, places_in(page.dead()))
    if index is not None:
        raise BadForget(index)
    words = page.lines()
    behind = lines_behind(page)
    left_out = {line_of(line): behind[line_of(line)] for line in lines}
    left = [line for line in words if line not in left_out]
    orders = []
    for line in left:
        # From lines that stay nothing leads on: so all between are of those left out.
        nexts = {other: left_out.get(other, []) for other in words}
        nexts[line] = behind[line]
        ends = reached(nexts, line)
        if line in ends:
            raise OnRing(line)
        orders.extend([(line, end) for end in left if end in ends])
    dead = [line for line in page.dead() if line not in left_out]
    return Page({line: words[line] for line in left}, orders, dead)
