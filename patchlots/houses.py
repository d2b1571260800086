"""The house: hands with their lots, marks, and deeds that can be taken back and done again."""

from patchlots.clashes import clashes, new_clashes
from patchlots.errors import BadDeed, NoCount, NoHand
from patchlots.hands import check_hand, together_of
from patchlots.housedeeds import check_names_of, deed_told, names_changed, state_behind
from patchlots.kinds import choice_place, is_list, is_name, is_number
from patchlots.lots import page_of
from patchlots.needs import sent_to
from patchlots.reading import text_of
from patchlots.turns import first_turns


class House:
    """Hands and marks, each with a lot, and the deeds by which they came."""

    # The lists below are never changed: so others may have them, too.
    def __init__(self):
        self._states = [({}, {})]
        self._done = []
        self._undone = []

    def do(self, deed):
        """Does a deed: the pair of what the hand's lot has got, and has lost."""
        told = deed_told(deed)
        if told is None:
            raise BadDeed(deed)
        state = self._states[-1]
        check_names_of(state, told)
        behind = state_behind(state, told)
        self._states = self._states + [behind]
        self._done = self._done + [told]
        self._undone = []
        return names_changed(state, behind, told)

    def hands(self):
        """The dict from hands to lots, ascending."""
        lots = self._states[-1][0]
        return {name: lots[name] for name in sorted(lots)}

    def marks(self):
        """The dict from marks to lots, ascending."""
        lots = self._states[-1][1]
        return {word: lots[word] for word in sorted(lots)}

    def lot_at(self, hand):
        """A hand's lot."""
        lots = self._states[-1][0]
        check_hand(lots, hand)
        return lots[hand]

    def text_at(self, hand):
        """The text of a hand's page, None if it does not read."""
        return text_of(page_of(self.lot_at(hand)))

    def clashes_at(self, hand):
        """The clashes of a hand's page."""
        return clashes(page_of(self.lot_at(hand)))

    def who_has(self, name):
        """The hands, ascending, whose lots have a patch called so."""
        return [hand for hand, lot in self.hands().items() if name in lot]

    def news(self, hand, other):
        """The names that a hand would fetch of another one, in the order in which they can come."""
        return sent_to(self.lot_at(hand), self.lot_at(other))

    def would(self, hand, other):
        """The text that a hand would have if it fetched all of another's, and the clashes that are new."""
        one = self.lot_at(hand)
        more = self.lot_at(other)
        return (text_of(page_of(one | more)), new_clashes(one, more))

    def together(self, hands):
        """The text of all patches of some hands, and the clashes of their page."""
        page = page_of(together_of(lots_of(self, hands, [])))
        return (text_of(page), clashes(page))

    def calm_turns(self, hand, others):
        """The first order in which a hand can fetch all of others', reading behind each, or None."""
        turns = turns_at(self, hand, others)
        return turns.get(tuple(sorted(others)))

    def stuck_turns(self, hand, others):
        """The lists of those that can have been fetched so far, None if all can."""
        turns = turns_at(self, hand, others)
        if tuple(sorted(others)) in turns:
            return None
        return sorted([list(names) for names in turns], key=choice_place)

    def count(self):
        """The number of the deeds that are done and not taken back."""
        return len(self._done)

    def undo(self):
        """Takes the last deed back: the deed, or None."""
        if len(self._done) == 0:
            return None
        deed = self._done[-1]
        self._undone = self._undone + [(deed, self._states[-1])]
        self._done = self._done[:-1]
        self._states = self._states[:-1]
        return deed

    def again(self):
        """Does the deed again that was taken back last: the deed, or None."""
        if len(self._undone) == 0:
            return None
        deed, state = self._undone[-1]
        self._undone = self._undone[:-1]
        self._done = self._done + [deed]
        self._states = self._states + [state]
        return deed

    def deeds(self):
        """The deeds that are done and not taken back."""
        return list(self._done)

    def at(self, number):
        """A house as this one was behind so many deeds."""
        if not is_number(number) or number > len(self._done):
            raise NoCount(number)
        made = House()
        made._states = self._states[:number + 1]
        made._done = self._done[:number]
        return made

    def trial(self, work):
        """What a function returns of the house, which then is again as it was ahead."""
        states = self._states
        done = self._done
        undone = self._undone
        try:
            return work(self)
        finally:
            self._states = states
            self._done = done
            self._undone = undone

    def copy(self):
        """Another house that is as this one is."""
        made = House()
        made._states = self._states
        made._done = self._done
        made._undone = self._undone
        return made

    def __eq__(self, other):
        return isinstance(other, House) and self._states[-1] == other._states[-1]


def house_of(hands, marks):
    """The house with these hands and marks, and no deed done."""
    made = House()
    made._states = [(hands, marks)]
    return made


def lots_of(house, hands, barred):
    """The lots of a list of unlike hands, or NoHand for the first thing that is none, or barred."""
    lots = house.hands()
    if not is_list(hands):
        raise NoHand(hands)
    for index, hand in enumerate(hands):
        if not is_name(hand) or hand not in lots or hand in hands[:index] or hand in barred:
            raise NoHand(hand)
    return [lots[hand] for hand in hands]


def turns_at(house, hand, others):
    """Those that a hand can have fetched, reading behind each, by their first orders."""
    lot = house.lot_at(hand)
    lots = lots_of(house, others, [hand])
    return first_turns(lot, {name: other for name, other in zip(others, lots)})
