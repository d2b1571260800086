"""What tells two pages apart for all that may come, and what of a page is kept for that."""

from patchlots.errors import BadPick, LacksLive, NoCompany
from patchlots.kinds import line_of, wrong_pick
from patchlots.pages import Page
from patchlots.reading import reading
from patchlots.ways import numbers_in, ways_between


def shared_lines(one, other):
    """The lines that both pages have with the same words, live in both or dead in both."""
    words = one.lines()
    others = other.lines()
    dead = set(one.dead())
    buried = set(other.dead())
    return [line for line in words
            if line in others and words[line] == others[line] and (line in dead) == (line in buried)]


def is_company(one, other, thing):
    """Whether any object is a page each of whose lines both pages share, or neither has."""
    if not isinstance(thing, Page):
        return False
    shared = set(shared_lines(one, other))
    words = one.lines()
    others = other.lines()
    return all([words[line] == told if line in shared else line not in words and line not in others
                for line, told in thing.lines().items()])


def both_read(one, other, more):
    """The pair of the readings of both pages with a company put to them."""
    if not is_company(one, other, more):
        raise NoCompany(more)
    return (reading(one | more), reading(other | more))


def ways_among(page, lines):
    """For each of some lines of a page the mask of those that it is ahead of, some lines first."""
    rest = [line for line in page.lines() if line not in lines]
    return ways_between(page, lines + rest)[:len(lines)]


def first_live_apart(one, other):
    """The first line that is live in just one page, or live in both with unlike words, or None."""
    words = one.lines()
    others = other.lines()
    live = set(one.live())
    alive = set(other.live())
    lines = sorted(set(one.live() + other.live()))
    apart = [line for line in lines
             if (line in live) != (line in alive) or words[line] != others[line]]
    return apart[0] if len(apart) > 0 else None


def told_apart(one, other):
    """What tells two pages apart for all that may come, None if nothing does."""
    lone = first_live_apart(one, other)
    if lone is not None:
        return ("live", lone)
    shared = shared_lines(one, other)
    live = set(one.live())
    masks = ways_among(one, shared)
    for place, other_mask in enumerate(ways_among(other, shared)):
        line = shared[place]
        for end in numbers_in(masks[place] ^ other_mask, len(shared)):
            if end != place or line in live:
                return ("ahead", line, shared[end])
    return None


def new_lines(one, other):
    """The first two lines (name, 0) whose names, new0, new1, .., no line of both pages has."""
    taken = {line[0]: True for line in list(one.lines()) + list(other.lines())}
    found = []
    number = 0
    while len(found) < 2:
        name = f"new{number}"
        if name not in taken:
            found.append((name, 0))
        number += 1
    return found


def parting_company(one, other):
    """A company with which just one of two pages reads, None if told_apart tells None or a line."""
    told = told_apart(one, other)
    if told is None or told[0] == "live":
        return None
    _, first, last = told
    words = one.lines()
    live = one.live()
    if first == last:
        return Page({line: words[line] for line in live}, [], [line for line in live if line != first])
    lines = {line: words[line] for line in live + [first, last]}
    begin, end = new_lines(one, other)
    lines[begin] = ""
    lines[end] = ""
    return Page(lines, [(begin, first), (last, end)], live)


def kept_page(page, lines):
    """The page of some lines alone, with all ways between unlike ones as orders."""
    words = page.lines()
    index = wrong_pick(lines, words)
    if index is not None:
        raise BadPick(index)
    told = sorted([line_of(line) for line in lines])
    for line in page.live():
        if line not in told:
            raise LacksLive(line)
    orders = [(line, told[end]) for line, mask in zip(told, ways_among(page, told))
              for end in numbers_in(mask, len(told)) if told[end] != line]
    return Page({line: words[line] for line in told}, orders, [line for line in page.dead() if line in told])
