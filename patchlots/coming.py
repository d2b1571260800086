"""What can live, die, or fail to read, whatever hands pull."""

from patchlots.hands import check_hand, gatherings, together_of
from patchlots.kinds import choices
from patchlots.lots import page_of
from patchlots.reading import line_on, reading


def can_live(hands, line):
    """The first list of hands in whose lots together a line is live, None if there is none."""
    told = line_on(page_of(hands.whole_lot()), line)
    lots = hands.lots_told()
    for some in choices(list(lots))[1:]:
        if told in page_of(together_of([lots[name] for name in some])).live():
            return some
    return None


def can_die(hands, name, line):
    """The first gathering behind which a line is with a hand, and dead, None if there is none."""
    check_hand(hands.lots_told(), name)
    told = line_on(page_of(hands.whole_lot()), line)
    for gathering, lot in gatherings(hands, name):
        if told in page_of(lot).dead():
            return gathering
    return None


def can_fail(hands, name):
    """The first gathering behind which the page of a hand does not read, None if there is none."""
    for gathering, lot in gatherings(hands, name):
        if reading(page_of(lot)) is None:
            return gathering
    return None
