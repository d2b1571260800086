"""What is ahead of what on a page, whether it reads, and why not."""

from patchlots.errors import NoLine
from patchlots.kinds import is_line_of, is_list, line_of
from patchlots.ways import live_ways, nexts_of, reached, shortest_round


def line_on(page, thing):
    """The line of the page that a thing is, or NoLine."""
    if not is_line_of(thing, page.lines()):
        raise NoLine(thing)
    return line_of(thing)


def lines_behind(page):
    """The dict from each line to the lines to which an order leads from it."""
    return nexts_of(page.lines(), page.orders())


def lines_before(page):
    """The dict from each line to the lines from which an order leads to it."""
    return nexts_of(page.lines(), [(other, one) for one, other in page.orders()])


def is_ahead(page, one, other):
    """Whether a way leads from the one line to the other."""
    first = line_on(page, one)
    last = line_on(page, other)
    return last in reached(lines_behind(page), first)


def between(page, one, other):
    """The lines that the one is ahead of and that are ahead of the other."""
    first = line_on(page, one)
    last = line_on(page, other)
    behind = reached(lines_behind(page), first)
    ahead = reached(lines_before(page), last)
    return [line for line in page.lines() if line in behind and line in ahead]


def reading(page):
    """The live lines, each ahead of the next, if the page reads, else None."""
    live, masks = live_ways(page)
    # Where a page reads each mask holds all those behind it, so the greater mask stands ahead.
    row = [place for _, place in sorted([(mask, at) for at, mask in enumerate(masks)])]
    rest = 0
    for place in row:
        if masks[place] != rest:
            return None
        rest = rest | 1 << place
    return [live[place] for place in reversed(row)]


def text_of(page):
    """The words of the live lines in the order in which the page reads, or None."""
    row = reading(page)
    if row is None:
        return None
    words = page.lines()
    return [words[line] for line in row]


def unordered(page):
    """The first pair of unlike live lines neither of which is ahead of the other, or None."""
    live, masks = live_ways(page)
    for one in range(len(live)):
        for other in range(one + 1, len(live)):
            if not masks[one] >> other & 1 and not masks[other] >> one & 1:
                return (live[one], live[other])
    return None


def ring(page):
    """A ring of as few lines as can be, None if there is none."""
    return shortest_round(lines_behind(page), page.live())


def is_ring(page, thing):
    """Whether any object is a ring of the page."""
    lines = page.lines()
    if not is_list(thing) or not all([is_line_of(line, lines) for line in thing]):
        return False
    told = [line_of(line) for line in thing]
    orders = set(page.orders())
    live = set(page.live())
    leads = all([(told[index - 1], line) in orders for index, line in enumerate(told)])
    return leads and any([line in live for line in told])


def gone(page):
    """The live lines to or from which orders lead, all of them from or to dead lines."""
    dead = set(page.dead())
    behind = lines_behind(page)
    before = lines_before(page)
    found = []
    for line in page.live():
        beside = behind[line] + before[line]
        if len(beside) > 0 and all([other in dead for other in beside]):
            found.append(line)
    return found
