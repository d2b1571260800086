"""Pages as texts."""

from patchlots.errors import BadText
from patchlots.kinds import is_name, is_words
from patchlots.pages import Page

FIGURES = "0123456789"


def line_text(line):
    return f"{line[0]}.{line[1]}"


def order_text(order):
    return f"order {line_text(order[0])} {line_text(order[1])}\n"


def number_told(text):
    """The number that figures tell as they are written, None if they tell none."""
    if text == "" or not all([sign in FIGURES for sign in text]):
        return None
    if text[0] == "0" and text != "0":
        return None
    number = 0
    for sign in text:
        number = number * 10 + FIGURES.index(sign)
    return number


def line_told(text):
    """The line that has a text, None if there is none."""
    name, _, figures = text.partition(".")
    number = number_told(figures)
    if not is_name(name) or number is None:
        return None
    return (name, number)


def order_told(text):
    """The order that two lines with a blank between tell, None if they tell none."""
    first, _, second = text.partition(" ")
    one = line_told(first)
    other = line_told(second)
    if one is None or other is None or one == other:
        return None
    return (one, other)


def rows_told(text):
    """The rows of a text without their line feeds.

    A last one that lacks its line feed is told as an empty one: no text has such a row.
    """
    rows = text.split("\n")
    if rows[-1] == "":
        return rows[:-1]
    return rows[:-1] + [""]


def write_page(page):
    """The text of a page."""
    dead = set(page.dead())
    rows = []
    for line, words in page.lines().items():
        kind = "dead" if line in dead else "line"
        rows.append(f"{kind} {line_text(line)} {words}\n")
    return "".join(rows + [order_text(order) for order in page.orders()])


def row_told(row):
    """The triple of kind, place and words of a row of a page, None if it is not so written.

    Places stand in the order of the rows: (0, line), then (1, order).
    """
    kind, _, rest = row.partition(" ")
    if kind == "order":
        order = order_told(rest)
        return None if order is None else (kind, (1, order), "")
    first, blank, words = rest.partition(" ")
    line = line_told(first)
    if kind not in ("line", "dead") or line is None or blank == "" or not is_words(words):
        return None
    return (kind, (0, line), words)


def read_page(text):
    """The page that has a text."""
    if not isinstance(text, str):
        raise BadText(0)
    lines = {}
    orders = []
    dead = []
    last = None
    for index, row in enumerate(rows_told(text)):
        told = row_told(row)
        if told is None or (last is not None and told[1] <= last):
            raise BadText(index)
        kind, last, words = told
        if kind == "order":
            if last[1][0] not in lines or last[1][1] not in lines:
                raise BadText(index)
            orders.append(last[1])
        else:
            lines[last[1]] = words
        if kind == "dead":
            dead.append(last[1])
    return Page(lines, orders, dead)
