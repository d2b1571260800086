"""Points 4 and the interface's row of errors."""

import unittest

from patchlots import errors
from patchlots.errors import NotReading, PatchError
from tests.helping import JUNK

TOLD = """
Amid(names) BadAnswers(index) BadArrow(index) BadAskings(index) BadBacks(index) BadBurials(index)
BadCalled(thing) BadCalls(index) BadChange(thing) BadClasses(index) BadCorner(index) BadDead(index)
BadDeed(thing) BadDeedName(thing) BadDeeds(thing) BadDifference(thing) BadEntries(thing)
BadForget(index) BadHands(thing) BadIndex(index) BadLanding(thing) BadLies(thing) BadLines(thing)
BadList(thing) BadMany(thing) BadName(thing) BadNames(index) BadOrders(index) BadPatches(index)
BadPick(index) BadPlacings(thing) BadPrice(thing) BadPull(index) BadRow(index) BadSpan(index)
BadStep(index) BadSuspects(index) BadText(index) BadTexts(index) BadTold(index) BadWords(index)
BadWorths(thing) Inward(name) Lacks(name,thing) LacksLive(line) NoClash(thing) NoCompany(thing)
NoCount(number) NoEntry(entry) NoFit(change) NoHand(name) NoItem(thing) NoLine(line) NoLive(line)
NoMark(name) NoPart(thing) NoPatch(name) NoRow(thing) NoText(index) NotRead(thing) NotReading()
NotTexts(span) OldRing(mark) OnRing(line) Parted(name) Round(names) StillNeeded(name,other)
TakenName(name) Twice(line) Unlike(line) UnlikeEntry(entry) UnlikeMark(mark) Unplaced(entry)
""".split()


class Errors(unittest.TestCase):
    def rows(self):
        for row in TOLD:
            name, told = row[:-1].split("(")
            yield getattr(errors, name), [word for word in told.split(",") if word]

    def test_all_are_there_and_nothing_else(self):
        classes = {name for name, thing in vars(errors).items() if isinstance(thing, type)}
        self.assertEqual(classes, {row.split("(")[0] for row in TOLD} | {"PatchError"})
        self.assertEqual(len(TOLD), 73)

    def test_direct_subclasses(self):
        self.assertEqual(PatchError.__bases__, (ValueError,))
        for error, _ in self.rows():
            self.assertEqual(error.__bases__, (PatchError,))
            self.assertEqual(error.__module__, "patchlots.errors")

    def test_they_hold_the_very_things(self):
        for error, names in self.rows():
            for thing in JUNK:
                things = [[thing] for _ in names]
                made = error(*things)
                named = error(**dict(zip(names, things)))
                for name, held in zip(names, things):
                    self.assertIs(getattr(made, name), held)
                    self.assertIs(getattr(named, name), held)

    def test_as_many_parameters_as_told(self):
        for error, names in self.rows():
            with self.assertRaises(TypeError):
                error(*range(len(names) + 1))
            if names:
                with self.assertRaises(TypeError):
                    error(*range(len(names) - 1))

    def test_some_have_no_parameters(self):
        for error in (PatchError, NotReading):
            self.assertIsInstance(error(), ValueError)
            with self.assertRaises(TypeError):
                error("why")

    def test_they_are_raised_and_caught(self):
        for error, names in self.rows():
            with self.assertRaises(PatchError) as held:
                raise error(*names)
            self.assertIs(type(held.exception), error)


if __name__ == "__main__":
    unittest.main()
