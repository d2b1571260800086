"""Point 125: houses as texts."""

import unittest

from patchlots.errors import BadText, Lacks, PatchError, Round
from patchlots.houses import House
from patchlots.housetexts import read_house, write_house
from tests.helping import A, B, C, JUNK, caught, random_deed, random_house, seeds

A0 = ("a", 0)


def house_behind(*deeds):
    house = House()
    for deed in deeds:
        house.do(deed)
    return house


HOUSE = house_behind(("come", "h"), ("record", "h", A), ("record", "h", C), ("mark", "m", "h"), ("come", "b1"), ("fetch", "b1", "h", ["a"]),
                     ("record", "b1", B), ("come", "k"), ("mark", "a", "k"))
TEXT = """patch a
says x
says y
order a.0 a.1
patch b
says m
order a.0 b.0
order b.0 a.1
patch c
bury a.0
hand b1 a b
hand h a c
hand k
mark a
mark m a c
"""


class Written(unittest.TestCase):
    def test_write_house(self):
        self.assertEqual(write_house(HOUSE), TEXT)
        self.assertEqual(write_house(house=House()), "")
        self.assertEqual(write_house(house_behind(("come", "b"), ("come", "a"))), "hand a\nhand b\n")
        # A mark keeps what no hand has any more.
        house = house_behind(("come", "h"), ("record", "h", A), ("mark", "m", "h"), ("leave", "h"))
        self.assertEqual(write_house(house), "patch a\nsays x\nsays y\norder a.0 a.1\nmark m a\n")

    def test_read_house(self):
        made = read_house(text=TEXT)
        self.assertEqual(made, HOUSE)
        self.assertEqual([made.count(), made.deeds(), made.again(), made.undo()], [0, [], None, None])
        self.assertEqual([list(made.hands()), list(made.marks())], [["b1", "h", "k"], ["a", "m"]])
        self.assertEqual(read_house(""), House())

    def test_written_read_and_goes_on(self):
        for rng in seeds(80):
            house = random_house(rng)
            text = write_house(house)
            made = read_house(text)
            self.assertEqual(made, house)
            self.assertEqual(write_house(made), text)
            self.assertEqual([made.hands(), made.marks(), made.count()], [house.hands(), house.marks(), 0])
            done = 0
            for number in range(30, 40):
                deed = random_deed(rng, house, number)
                told = []
                for other in (house, made):
                    try:
                        told.append(other.do(deed))
                    except PatchError as why:
                        told.append([type(why), list(vars(why).values())])
                self.assertEqual(told[0], told[1])
                self.assertEqual(house, made)
                done += isinstance(told[0], tuple)
                self.assertEqual(made.count(), done)
            self.assertEqual(write_house(house), write_house(made))

    def test_equal_houses_have_equal_texts(self):
        other = house_behind(("come", "k"), ("mark", "a", "k"), ("come", "b1"), ("record", "b1", A), ("come", "h"),
                             ("fetch", "h", "b1", ["a"]), ("record", "b1", B), ("record", "h", C), ("mark", "m", "h"))
        self.assertEqual(other, HOUSE)
        self.assertEqual(write_house(other), TEXT)


class Refused(unittest.TestCase):
    def check(self, text, index):
        self.assertEqual(caught(BadText, read_house, text).index, index, text)

    def test_no_string(self):
        for thing in JUNK + [3, ["hand a"], ("hand a\n",), HOUSE]:
            if not isinstance(thing, str):
                self.check(thing, 0)

    def test_rows_not_so_written(self):
        rows = TEXT.split("\n")[:-1]
        for row in ("", "hand", "hand ", "hand  h", "Hand h", "hand H", "hand h ", "hand h  a", "hand h a  c", " hand h", "hand h c a", "hand h a a",
                    "hand h A", "hand h a.0", "mark", "mark ", "mark m ", "marks m", "hand\th", "hands h", "hand h,a", "patch", "patch A", "says", "w" * 9):
            for at in (9, 10, 11, 12, 15):
                self.check("\n".join(rows[:at] + [row] + rows[at:]) + "\n", at)
            self.check(row + "\n" if row else "\n", 0)
        self.check("patch a\nsays " + "w" * 201 + "\nhand h a\n", 1)
        self.check("says x\n", 0)

    def test_rows_not_behind_the_one_ahead(self):
        rows = TEXT.split("\n")[:-1]
        for at, row in ((10, "patch d"), (11, "patch b"), (12, "says x"), (11, "hand b1 a"), (11, "hand b1 a c"), (15, "mark m c"), (11, "hand b0"), (12, "hand b1"), (12, "hand h a c"),
                        (14, "hand z"), (14, "mark a"), (15, "mark m"), (15, "mark b"), (15, "hand z"), (13, "order a.0 a.1"), (8, "order a.1 a.0")):
            self.check("\n".join(rows[:at] + [row] + rows[at:]) + "\n", at)

    def test_what_patch_refuses(self):
        for row, at in (("order a.0 a.0", 3), ("order a.0 a.2", 3), ("bury a.0", 4), ("back a b.0", 4), ("back b b.0", 4)):
            rows = TEXT.split("\n")[:-1]
            self.check("\n".join(rows[:at] + [row] + rows[at:]) + "\n", at)

    def test_the_last_row_lacks_its_line_feed(self):
        for many in range(1, 16):
            text = "\n".join(TEXT.split("\n")[:many])
            self.check(text, text.count("\n"))
        self.check("hand h", 0)
        self.check("hand H\nhand", 0)
        self.check("hand h\nhand", 1)
        # It comes ahead of what the lot lacks.
        self.check("patch b\norder a.0 c.0\nhand h b", 2)

    def test_lacks_then_round(self):
        why = caught(Lacks, read_house, "patch b\norder a.0 c.0\nhand h zz\n")
        self.assertEqual([why.name, why.thing], ["b", A0])
        text = "patch a\nsays x\norder a.0 b.0\npatch b\nsays y\norder a.0 b.0\npatch c\nhand h a\n"
        self.assertEqual(caught(Round, read_house, text).names, ["a", "b"])
        self.assertEqual(caught(Lacks, read_house, text.replace("patch c\n", "patch c\nbury z.0\n")).thing, ("z", 0))

    def test_hands_and_marks_of_no_part(self):
        self.check(TEXT.replace("hand h a c", "hand h a d"), 11)
        self.check(TEXT.replace("hand h a c", "hand h c"), 11)
        self.check(TEXT.replace("hand k", "hand k b"), 12)
        self.check(TEXT.replace("mark a\n", "mark a b c\n"), 13)
        self.check(TEXT.replace("mark m a c", "mark m zz"), 14)
        self.check(TEXT.replace("mark m a c", "mark m c").replace("hand b1 a b", "hand b1 b"), 10)

    def test_patches_that_nobody_has(self):
        self.check(TEXT.replace("hand b1 a b", "hand b1 a"), 4)
        self.check(TEXT.replace("hand h a c", "hand h a").replace("mark m a c", "mark m a"), 8)
        self.check("patch a\npatch b\n", 0)
        self.check("patch a\npatch b\nhand h a\n", 1)
        # A hand of no part comes ahead of it.
        self.check("patch a\npatch b\nhand h a z\n", 2)

    def test_some_row_left_out_or_turned(self):
        """Texts that are nearly one are refused, or tell what is written just so."""
        for rng in seeds(60):
            rows = write_house(random_house(rng)).split("\n")[:-1]
            for _ in range(8):
                told = list(rows)
                for _ in range(rng.choice([1, 2])):
                    if told and rng.random() < 0.6:
                        del told[rng.randrange(len(told))]
                    else:
                        rng.shuffle(told)
                text = "".join(row + "\n" for row in told)
                try:
                    made = read_house(text)
                except PatchError as why:
                    self.assertIn(type(why), (BadText, Lacks, Round))
                else:
                    self.assertEqual(write_house(made), text)


if __name__ == "__main__":
    unittest.main()
