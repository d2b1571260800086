"""Point 17: pages as texts."""

import unittest

from patchlots.errors import BadText
from patchlots.pages import Page
from patchlots.pagetexts import read_page, write_page
from tests.helping import JUNK, caught, exact, random_page, seeds

TEXT = "dead a.2 x y\nline a.10 \nline b.0  z \norder a.2 a.10\norder a.2 b.0\norder b.0 a.2\n"
PAGE = Page({("a", 10): "", ("b", 0): " z ", ("a", 2): "x y"},
            [(("b", 0), ("a", 2)), (("a", 2), ("b", 0)), (("a", 2), ("a", 10))], [("a", 2)])


class PageTexts(unittest.TestCase):
    def test_written_and_read(self):
        self.assertEqual(write_page(PAGE), TEXT)
        self.assertEqual(write_page(page=PAGE), TEXT)
        self.assertEqual(read_page(TEXT), PAGE)
        self.assertEqual(read_page(text=TEXT), PAGE)

    def test_empty_page(self):
        self.assertEqual(write_page(Page({}, [], [])), "")
        self.assertEqual(read_page(""), Page({}, [], []))

    def test_words_with_other_breaks_than_line_feeds(self):
        for words in ("\r", "a\r", "\x0b\x0c\x1c\x85\u2028\u2029", " ", "line a.0 x", "w" * 200):
            page = Page({("a", 0): words, ("b", 0): ""}, [], [("a", 0)])
            self.assertEqual(read_page(write_page(page)), page)
            self.assertEqual(write_page(page), f"dead a.0 {words}\nline b.0 \n")

    def test_both_ways(self):
        for rng in seeds(100):
            page = random_page(rng)
            self.assertEqual(read_page(write_page(page)), page)
            self.assertTrue(exact(read_page(write_page(page)).orders(), page.orders()))

    def test_rows_that_are_not_so_written(self):
        for row in ("", " ", "line", "line ", "line a.0", "line a", "line a. x", "line .0 x", "line a.00 x",
                    "line a.01 x", "line a.-1 x", "line a.+1 x", "line a.1_0 x", "line a.z x", "line a.1z x", "line a.\u0661 x", "line A.0 x",
                    "line 0a.0 x", "line  a.5 x", "lines a.5 x", "Line a.5 x", " line a.5 x", "line a,5 x",
                    "live a.5 x", "line a.5.1 x", "line abcdefghijklm.0 x", "line a.5\tx", "bury a.5", "patch a",
                    "line a.5 " + "w" * 201, "dead a.5", "deadline a.5 x", "line a.5 x\r\nx",
                    "order a.0", "order a.0 b.0", "order a.0 a.0", "order a.0 a.1 ", "order a.0  a.1",
                    "order  a.0 a.1", "order a.0 a.1 a.2", "order a.0,a.1", "order a.0 a.01", "orders a.0 a.1",
                    "order", "order ", "order a.0 "):
            text = "line a.0 x\nline a.1 y\n" + row + "\nnonsense\n"
            wanted = 3 if row.endswith("\r\nx") else 2
            self.assertEqual(caught(BadText, read_page, text).index, wanted, row)

    def test_rows_out_of_order(self):
        for row, index in (("line a.1 x", 2), ("dead a.1 x", 2), ("line a.0 x", 2), ("line a.2 x", None)):
            text = f"line a.0 x\nline a.1 y\n{row}\n"
            if index is None:
                self.assertEqual(len(read_page(text).lines()), 3)
            else:
                self.assertEqual(caught(BadText, read_page, text).index, index)
        text = "line a.9 x\nline a.10 y\nline b.0 \n"
        self.assertEqual(list(read_page(text).lines()), [("a", 9), ("a", 10), ("b", 0)])
        self.assertEqual(caught(BadText, read_page, "line a.10 x\nline a.9 y\n").index, 1)
        orders = "line a.0 x\nline a.1 y\nline b.0 z\n"
        self.assertEqual(len(read_page(orders + "order a.0 b.0\norder a.1 a.0\n").orders()), 2)
        for rows in ("order a.0 b.0\norder a.0 b.0\n", "order a.0 b.0\norder a.0 a.1\n",
                     "order a.0 b.0\nline c.0 x\n", "order b.0 a.0\ndead c.0 x\n"):
            self.assertEqual(caught(BadText, read_page, orders + rows).index, 4)

    def test_orders_of_lines_that_no_row_ahead_tells(self):
        self.assertEqual(caught(BadText, read_page, "line a.0 x\norder a.0 a.1\nline a.1 x\n").index, 1)
        self.assertEqual(caught(BadText, read_page, "line a.0 x\norder b.0 a.0\n").index, 1)
        self.assertEqual(caught(BadText, read_page, "order a.0 a.1\n").index, 0)

    def test_line_feeds(self):
        self.assertEqual(caught(BadText, read_page, TEXT[:-1]).index, 5)
        self.assertEqual(caught(BadText, read_page, "line a.0 x").index, 0)
        self.assertEqual(caught(BadText, read_page, "\n").index, 0)
        self.assertEqual(caught(BadText, read_page, TEXT + "\n").index, 6)
        self.assertEqual(caught(BadText, read_page, TEXT + " ").index, 6)
        self.assertEqual(caught(BadText, read_page, "line a.0 x\nline a.1").index, 1)
        self.assertEqual(caught(BadText, read_page, "nonsense\nline a.1 x").index, 0)

    def test_no_string(self):
        for thing in JUNK + [[], ["line a.0 x\n"], 0, (), {}]:
            if not isinstance(thing, str):
                self.assertEqual(caught(BadText, read_page, thing).index, 0)

    def test_any_changed_sign(self):
        for rng in seeds(300):
            place = rng.randrange(len(TEXT))
            text = TEXT[:place] + rng.choice(" ab0.1\nlrx") + TEXT[place + rng.choice([0, 1]):]
            try:
                page = read_page(text)
            except BadText as why:
                self.assertLessEqual(why.index, text.count("\n"))
            else:
                self.assertEqual(write_page(page), text)


if __name__ == "__main__":
    unittest.main()
