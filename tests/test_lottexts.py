"""Point 29: lots as texts."""

import unittest

from patchlots.errors import BadText, Lacks, Round
from patchlots.lots import Lot
from patchlots.lottexts import read_lot, write_lot
from patchlots.patches import Patch
from tests.helping import JUNK, A, B, C, D, caught, exact, random_lot, seeds

TEXT = """patch a
says x
says y
order a.0 a.1
patch b
says m
order a.0 b.0
order b.0 a.1
patch c
bury a.0
patch d
back c a.0
"""
HEAD = "patch a\nsays x\nsays y\n"


class LotTexts(unittest.TestCase):
    def test_the_lot_of_31(self):
        lot = Lot([D, C, B, A])
        self.assertEqual(write_lot(lot), TEXT)
        self.assertEqual(write_lot(lot=lot), TEXT)
        self.assertEqual(read_lot(TEXT), lot)
        self.assertEqual(read_lot(text=TEXT), lot)

    def test_empty_lot_and_empty_words(self):
        self.assertEqual(write_lot(Lot([])), "")
        self.assertEqual(read_lot(""), Lot([]))
        lot = Lot([Patch("p", ["", " ", "patch q", "\r", "\u2028"])])
        self.assertEqual(write_lot(lot), "patch p\nsays \nsays  \nsays patch q\nsays \r\nsays \u2028\n")
        self.assertEqual(read_lot(write_lot(lot)), lot)

    def test_each_kind_in_the_order(self):
        patch = Patch("z", ["w"], [(("a", 10), ("z", 0)), (("a", 9), ("z", 0))], [("a", 10), ("a", 9)],
                      [("c", ("a", 10)), ("b", ("a", 9)), ("c", ("a", 9))])
        lot = Lot([patch, Patch("a", [""] * 11), Patch("b", [], [], [("a", 9)]),
                   Patch("c", [], [], [("a", 9), ("a", 10)])])
        self.assertTrue(write_lot(lot).endswith(
            "patch z\nsays w\norder a.9 z.0\norder a.10 z.0\nbury a.9\nbury a.10\n"
            "back b a.9\nback c a.9\nback c a.10\n"))
        self.assertEqual(read_lot(write_lot(lot)), lot)

    def test_both_ways(self):
        for rng in seeds(100):
            lot = random_lot(rng)
            self.assertEqual(read_lot(write_lot(lot)), lot)

    def test_rows_that_are_not_so_written(self):
        for row in ("", " ", "patch", "patch ", "patch B", "patch b ", "patch  b", "patch b c", "Patch b", "patch 1",
                    "patch abcdefghijklm", "says", "say x", "says\tx", "line a.0 x", "dead a.0 x", "order", "order ",
                    "order a.0", "order a.0 ", "order a.0 a.0", "order a.0 a.01", "order a.0  a.1", "order a.0 a.1 ",
                    "bury", "bury ", "bury b", "bury b.", "bury b.00", "bury b.-1", "bury b.z", "bury b.1z", "bury b.1 0", "bury  b.0", "bury b.0 ",
                    "bury b.0 b.1", "buries b.0", "back", "back b", "back b c.0 ", "back  b c.0", "back b  c.0",
                    "back B c.0", "back b c", "back b.0 c.0", "back b c.0 d.0", "says " + "w" * 201, "order a.\u0661 b.0"):
            self.assertEqual(caught(BadText, read_lot, HEAD + row + "\nnonsense\n").index, 3, row)

    def test_rows_of_no_patch(self):
        for row in ("says x", "order a.0 a.1", "bury a.0", "back b a.0", "nonsense", ""):
            self.assertEqual(caught(BadText, read_lot, row + "\n").index, 0)

    def test_rows_out_of_order(self):
        for rows in ("patch a\n", "patch 0\n", "patch A\n", "order a.0 b.0\nsays x\n", "bury b.0\nsays x\n",
                     "bury b.0\norder a.0 a.1\n", "back b c.0\nbury b.0\n", "back b c.0\nsays x\n",
                     "back b c.0\norder a.0 a.1\n", "order a.1 a.0\norder a.0 a.1\n", "order a.0 a.1\norder a.0 a.1\n",
                     "bury b.1\nbury b.0\n", "bury b.10\nbury b.9\n", "bury b.0\nbury b.0\n",
                     "back b c.0\nback b c.0\n", "back c b.0\nback b c.0\n", "back b c.1\nback b c.0\n",
                     "order a.0 a.1\norder a.0 c.0\norder a.0 b.0\n", "bury b.0\nbury d.0\nbury c.0\n",
                     "back b c.0\nback d c.0\nback c b.0\n", "patch c\npatch b\n", "patch c\npatch c\n", "patch b1\npatch b\n"):
            text = HEAD + rows
            self.assertEqual(caught(BadText, read_lot, text + "nonsense\n").index, text.count("\n") - 1, rows)

    def test_what_patch_refuses_with_the_rows_ahead_alone(self):
        for row in ("order a.0 a.2", "order a.7 b.0", "bury a.0", "bury a.9", "back a b.0", "back b a.0", "back b b.0"):
            self.assertEqual(caught(BadText, read_lot, HEAD + row + "\npatch z\n").index, 3, row)
        self.assertEqual(caught(BadText, read_lot, "patch a\nsays x\norder a.0 a.1\nsays y\n").index, 2)

    def test_line_feeds(self):
        self.assertEqual(caught(BadText, read_lot, TEXT[:-1]).index, 11)
        self.assertEqual(caught(BadText, read_lot, "patch a").index, 0)
        self.assertEqual(caught(BadText, read_lot, "\n").index, 0)
        self.assertEqual(caught(BadText, read_lot, TEXT + "\n").index, 12)
        self.assertEqual(caught(BadText, read_lot, HEAD + "says z").index, 3)

    def test_no_string(self):
        for thing in JUNK + [[], [TEXT], 0, (), {}, A, Lot([A])]:
            if not isinstance(thing, str):
                self.assertEqual(caught(BadText, read_lot, thing).index, 0)

    def test_then_lacks_then_round(self):
        why = caught(Lacks, read_lot, "patch b\nbury a.0\n")
        self.assertTrue(exact([why.name, why.thing], ["b", ("a", 0)]))
        why = caught(Lacks, read_lot, "patch a\nsays x\npatch b\nback c a.0\n")
        self.assertTrue(exact([why.name, why.thing], ["b", ("c", ("a", 0))]))
        rows = "patch a\nsays x\norder a.0 b.0\npatch b\nsays y\norder a.0 b.0\n"
        self.assertTrue(exact(caught(Round, read_lot, rows).names, ["a", "b"]))
        self.assertEqual(caught(Lacks, read_lot, rows + "bury z.0\n").thing, ("z", 0))
        self.assertEqual(caught(BadText, read_lot, rows + "bury z.0\nx").index, 7)

    def test_any_changed_sign(self):
        for rng in seeds(300):
            place = rng.randrange(len(TEXT))
            text = TEXT[:place] + rng.choice(" abc0.1\nspo") + TEXT[place + rng.choice([0, 1]):]
            try:
                lot = read_lot(text)
            except BadText as why:
                self.assertLessEqual(why.index, text.count("\n"))
            except (Lacks, Round):
                pass
            else:
                self.assertEqual(write_lot(lot), text)


if __name__ == "__main__":
    unittest.main()
