"""Settling a page: by orders, by burials, by both, as cheap as can be; and what two hands turn."""

from patchlots.errors import BadOrders, BadPick, BadPrice, NoRow, NotRead
from patchlots.kinds import is_number, line_of, wrong_pick
from patchlots.pages import Page, checked_orders, wrong_order
from patchlots.reading import reading
from patchlots.rows import is_row
from patchlots.stays import stayer_ways
from patchlots.ways import live_ways, numbers_in, places_in, turned


def with_orders(page, orders):
    """The page with more orders."""
    more = checked_orders(orders, page.lines())
    return Page(page.lines(), page.orders() + more, page.dead())


def with_buried(page, lines):
    """The page with more dead lines."""
    index = wrong_pick(lines, page.lines())
    if index is not None:
        raise BadPick(index)
    return Page(page.lines(), page.orders(), page.dead() + [line_of(line) for line in lines])


def settles(page, orders, lines):
    """Whether the page with more orders and more dead lines reads."""
    return reading(with_buried(with_orders(page, orders), lines)) is not None


def jumps(page, row):
    """The pairs of neighbours of a row the first one of which is not ahead of the other."""
    if not is_row(page, row):
        raise NoRow(row)
    live, masks = live_ways(page)
    places = places_in(live)
    points = [places[line_of(line)] for line in row]
    return jumps_along(live, masks, points)


def jumps_along(lines, masks, points):
    """The pairs of the lines of neighbouring points the first one of which is not ahead of the other."""
    return [(lines[points[index]], lines[point]) for index, point in enumerate(points[1:])
            if not masks[points[index]] >> point & 1]


def fewest_jumps(masks, needed):
    """The dict from masks of points to a row of just these of the fewest jumps: (jumps, row).

    No point stands behind one that it is ahead of, and each behind all of those that it needs.
    """
    count = len(masks)
    level = {(0, count): (0, [])}
    found = {0: (0, [])}
    for _ in range(count):
        further = {}
        for (come, last), (many, row) in level.items():
            for point in numbers_in(~come, count):
                if needed[point] & ~come == 0 and masks[point] & come == 0:
                    jump = 0 if last == count or masks[last] >> point & 1 else 1
                    key = (come | 1 << point, point)
                    if key not in further or many + jump < further[key][0]:
                        further[key] = (many + jump, row + [point])
        for (come, _), told in further.items():
            if come not in found or told[0] < found[come][0]:
                found[come] = told
        level = further
    return found


def fewest_orders(page):
    """As few orders as can be, in THE ORDER, by which the page reads, None if there are none."""
    lines, masks = stayer_ways(page)
    if len(lines) < len(page.live()):
        return None
    # Each other order, of dead lines, too, could be one between two neighbours of the row.
    _, row = fewest_jumps(masks, turned(masks))[(1 << len(lines)) - 1]
    return sorted(jumps_along(lines, masks, row))


def cheapest_settlement(page, price):
    """A triple (cost, orders, lines) of the least cost by which the page settles."""
    if not is_number(price):
        raise BadPrice(price)
    lines, masks = stayer_ways(page)
    live = page.live()
    best = None
    row = []
    for many, told in fewest_jumps(masks, [0 for _ in lines]).values():
        cost = many + price * (len(live) - len(told))
        if best is None or cost < best:
            best = cost
            row = told
    kept = places_in([lines[point] for point in row])
    return (best, sorted(jumps_along(lines, masks, row)), [line for line in live if line not in kept])


def wrong_live_order(page, orders):
    """The index of the first thing that is no order of live lines, 0 for no list, or None."""
    return wrong_order(orders, places_in(page.live()))


def turned_pairs(page, one, other):
    """The pairs of live lines that read in this order by the one, and in the other by the other."""
    for orders in [one, other]:
        index = wrong_live_order(page, orders)
        if index is not None:
            raise BadOrders(index)
    rows = [reading(with_orders(page, orders)) for orders in [one, other]]
    for number, row in enumerate(rows):
        if row is None:
            raise NotRead(number)
    places = places_in(rows[1])
    return sorted([(first, last) for index, first in enumerate(rows[0]) for last in rows[0][index + 1:]
                   if places[last] < places[first]])
