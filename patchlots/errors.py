"""The errors of the package.

Each holds what it was made with, the very thing, under the name of its parameter.
"""


class PatchError(ValueError):
    """What all errors of the package are."""

    def __init__(self):
        """It holds nothing."""


class Amid(PatchError):
    def __init__(self, names):
        self.names = names

class BadAnswers(PatchError):
    def __init__(self, index):
        self.index = index

class BadArrow(PatchError):
    def __init__(self, index):
        self.index = index

class BadAskings(PatchError):
    def __init__(self, index):
        self.index = index

class BadBacks(PatchError):
    def __init__(self, index):
        self.index = index

class BadBurials(PatchError):
    def __init__(self, index):
        self.index = index

class BadCalled(PatchError):
    def __init__(self, thing):
        self.thing = thing

class BadCalls(PatchError):
    def __init__(self, index):
        self.index = index

class BadChange(PatchError):
    def __init__(self, thing):
        self.thing = thing

class BadClasses(PatchError):
    def __init__(self, index):
        self.index = index

class BadCorner(PatchError):
    def __init__(self, index):
        self.index = index

class BadDead(PatchError):
    def __init__(self, index):
        self.index = index

class BadDeed(PatchError):
    def __init__(self, thing):
        self.thing = thing

class BadDeedName(PatchError):
    def __init__(self, thing):
        self.thing = thing

class BadDeeds(PatchError):
    def __init__(self, thing):
        self.thing = thing

class BadDifference(PatchError):
    def __init__(self, thing):
        self.thing = thing

class BadEntries(PatchError):
    def __init__(self, thing):
        self.thing = thing

class BadForget(PatchError):
    def __init__(self, index):
        self.index = index

class BadHands(PatchError):
    def __init__(self, thing):
        self.thing = thing

class BadIndex(PatchError):
    def __init__(self, index):
        self.index = index

class BadLanding(PatchError):
    def __init__(self, thing):
        self.thing = thing

class BadLies(PatchError):
    def __init__(self, thing):
        self.thing = thing

class BadLines(PatchError):
    def __init__(self, thing):
        self.thing = thing

class BadList(PatchError):
    def __init__(self, thing):
        self.thing = thing

class BadMany(PatchError):
    def __init__(self, thing):
        self.thing = thing

class BadName(PatchError):
    def __init__(self, thing):
        self.thing = thing

class BadNames(PatchError):
    def __init__(self, index):
        self.index = index

class BadOrders(PatchError):
    def __init__(self, index):
        self.index = index

class BadPatches(PatchError):
    def __init__(self, index):
        self.index = index

class BadPick(PatchError):
    def __init__(self, index):
        self.index = index

class BadPlacings(PatchError):
    def __init__(self, thing):
        self.thing = thing

class BadPrice(PatchError):
    def __init__(self, thing):
        self.thing = thing

class BadPull(PatchError):
    def __init__(self, index):
        self.index = index

class BadRow(PatchError):
    def __init__(self, index):
        self.index = index

class BadSpan(PatchError):
    def __init__(self, index):
        self.index = index

class BadStep(PatchError):
    def __init__(self, index):
        self.index = index

class BadSuspects(PatchError):
    def __init__(self, index):
        self.index = index

class BadText(PatchError):
    def __init__(self, index):
        self.index = index

class BadTexts(PatchError):
    def __init__(self, index):
        self.index = index

class BadTold(PatchError):
    def __init__(self, index):
        self.index = index

class BadWords(PatchError):
    def __init__(self, index):
        self.index = index

class BadWorths(PatchError):
    def __init__(self, thing):
        self.thing = thing

class Inward(PatchError):
    def __init__(self, name):
        self.name = name

class Lacks(PatchError):
    def __init__(self, name, thing):
        self.name = name
        self.thing = thing

class LacksLive(PatchError):
    def __init__(self, line):
        self.line = line

class NoClash(PatchError):
    def __init__(self, thing):
        self.thing = thing

class NoCompany(PatchError):
    def __init__(self, thing):
        self.thing = thing

class NoCount(PatchError):
    def __init__(self, number):
        self.number = number

class NoEntry(PatchError):
    def __init__(self, entry):
        self.entry = entry

class NoFit(PatchError):
    def __init__(self, change):
        self.change = change

class NoHand(PatchError):
    def __init__(self, name):
        self.name = name

class NoItem(PatchError):
    def __init__(self, thing):
        self.thing = thing

class NoLine(PatchError):
    def __init__(self, line):
        self.line = line

class NoLive(PatchError):
    def __init__(self, line):
        self.line = line

class NoMark(PatchError):
    def __init__(self, name):
        self.name = name

class NoPart(PatchError):
    def __init__(self, thing):
        self.thing = thing

class NoPatch(PatchError):
    def __init__(self, name):
        self.name = name

class NoRow(PatchError):
    def __init__(self, thing):
        self.thing = thing

class NoText(PatchError):
    def __init__(self, index):
        self.index = index

class NotRead(PatchError):
    def __init__(self, thing):
        self.thing = thing

class NotReading(PatchError):
    def __init__(self):
        """It holds nothing."""

class NotTexts(PatchError):
    def __init__(self, span):
        self.span = span

class OldRing(PatchError):
    def __init__(self, mark):
        self.mark = mark

class OnRing(PatchError):
    def __init__(self, line):
        self.line = line

class Parted(PatchError):
    def __init__(self, name):
        self.name = name

class Round(PatchError):
    def __init__(self, names):
        self.names = names

class StillNeeded(PatchError):
    def __init__(self, name, other):
        self.name = name
        self.other = other

class TakenName(PatchError):
    def __init__(self, name):
        self.name = name

class Twice(PatchError):
    def __init__(self, line):
        self.line = line

class Unlike(PatchError):
    def __init__(self, line):
        self.line = line

class UnlikeEntry(PatchError):
    def __init__(self, entry):
        self.entry = entry

class UnlikeMark(PatchError):
    def __init__(self, mark):
        self.mark = mark

class Unplaced(PatchError):
    def __init__(self, entry):
        self.entry = entry
