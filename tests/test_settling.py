"""Points 60, and 67 to 69: settling by orders, by burials, by both; two hands."""

import unittest
from itertools import combinations, permutations

from patchlots.columns import columns
from patchlots.errors import BadOrders, BadPick, BadPrice, NoRow, NotRead
from patchlots.pages import Page
from patchlots.reading import reading
from patchlots.rows import rows_of
from patchlots.settling import (
    cheapest_settlement, fewest_orders, jumps, settles, turned_pairs, with_buried, with_orders,
)
from patchlots.stays import stayers
from tests.helping import (
    JUNK, as_lists, as_tuples, caught, exact, random_page, seeds, slow_aheads, slow_reads, slow_rows,
)

A0, A1, B0, C0, D0 = ("a", 0), ("a", 1), ("b", 0), ("c", 0), ("d", 0)
LINES = dict.fromkeys([A0, A1, B0, C0], "")
ORDERS = [(A0, A1), (A0, B0), (A0, C0), (B0, A1), (C0, A1)]
PAGE = Page(LINES, ORDERS, [])
ROUND = Page(dict.fromkeys([A0, A1, B0, C0, D0], ""), [(A0, B0), (B0, A1), (C0, D0), (D0, C0)], [B0])
EMPTY = Page({}, [], [])
DEAD = Page({A0: "", A1: ""}, [(A0, A1)], [A0, A1])


def slow_settlements(page, most):
    """The pairs (orders, lines) by which a page settles, of at most so many orders, the fewest for each lines."""
    pairs = list(permutations(page.lines(), 2))
    for count in range(len(page.live()) + 1):
        for lines in combinations(page.live(), count):
            buried = Page(page.lines(), page.orders(), page.dead() + list(lines))
            # More orders never make an end of a ring.
            done = any((line, line) in slow_aheads(buried) for line in buried.live())
            for many in range(most + 1):
                if not done:
                    for orders in combinations(pairs, many):
                        if slow_reads(Page(page.lines(), page.orders() + list(orders), buried.dead())):
                            done = True
                            yield len(orders), len(lines)
                            break


class WithMore(unittest.TestCase):
    def test_with_orders(self):
        self.assertEqual(with_orders(PAGE, [(B0, C0), (A0, A1)]), Page(LINES, ORDERS + [(B0, C0)], []))
        self.assertEqual(with_orders(orders=((["c", 0], ("b", 0)),), page=PAGE), Page(LINES, ORDERS + [(C0, B0)], []))
        self.assertEqual(with_orders(PAGE, ()), PAGE)
        self.assertEqual(with_orders(ROUND, [(B0, C0)]).orders(), sorted(ROUND.orders() + [(B0, C0)]))
        self.assertEqual(with_orders(EMPTY, []), EMPTY)

    def test_with_buried(self):
        self.assertEqual(with_buried(PAGE, [C0, ["a", 0]]), Page(LINES, ORDERS, [A0, C0]))
        self.assertEqual(with_buried(lines=(B0, C0), page=ROUND).dead(), [B0, C0])
        self.assertEqual(with_buried(PAGE, ()), PAGE)
        self.assertEqual(with_buried(DEAD, [A0]), DEAD)

    def test_settles(self):
        self.assertIs(settles(PAGE, [], []), False)
        self.assertIs(settles(PAGE, [(C0, B0)], []), True)
        self.assertIs(settles(PAGE, (), [["b", 0]]), True)
        self.assertIs(settles(lines=[C0, D0, B0], orders=[], page=ROUND), True)
        self.assertIs(settles(ROUND, [(A1, C0)], [D0]), False)
        self.assertIs(settles(EMPTY, [], []), True)

    def test_bad_orders(self):
        calls = [with_orders, lambda page, orders: settles(page, orders, None)]
        for call in calls:
            for thing in JUNK + [(A0, D0), (D0, A0), (A0, A0), (A0,), (A0, A1, B0), A0, "a0", 3, (A0, ("a", True))]:
                self.assertEqual(caught(BadOrders, call, PAGE, [(A0, A1), (B0, A0), thing, None]).index, 2)
            for thing in (None, True, 0, "", {}, {A0: A1}, PAGE, (A0, A1)):
                self.assertEqual(caught(BadOrders, call, PAGE, thing).index, 0)

    def test_bad_pick(self):
        calls = [with_buried, lambda page, lines: settles(page, [], lines)]
        for call in calls:
            for thing in JUNK + [D0, B0, ["b", 0], "a0", 3, ("a", True), ("a", 2)]:
                self.assertEqual(caught(BadPick, call, PAGE, [A0, B0, thing, None]).index, 2)
            for thing in (None, True, 0, "", {}, {A0: 1}, PAGE, "a0"):
                self.assertEqual(caught(BadPick, call, PAGE, thing).index, 0)

    def test_later_changes_have_no_effect(self):
        orders, lines = [[["b", 0], ["c", 0]]], [["a", 0]]
        one, other = with_orders(PAGE, orders), with_buried(PAGE, lines)
        orders[0][0][0] = "q"
        lines[0][1] = 1
        self.assertEqual([one.orders(), other.dead(), PAGE.orders()], [sorted(ORDERS + [(B0, C0)]), [A0], sorted(ORDERS)])

    def test_by_definition(self):
        for rng in seeds(100):
            page = random_page(rng, 6)
            pairs = list(permutations(page.lines(), 2))
            orders = rng.sample(pairs, min(len(pairs), rng.randint(0, 4)))
            lines = [line for line in page.lines() if rng.random() < 0.4]
            both = Page(page.lines(), page.orders() + orders, page.dead() + lines)
            self.assertEqual(with_buried(with_orders(page, as_lists(orders)), as_tuples(lines)), both)
            self.assertIs(settles(page, orders, lines), slow_reads(both))


class Jumps(unittest.TestCase):
    def test_jumps(self):
        self.assertTrue(exact(jumps(PAGE, [A0, B0, C0, A1]), [(B0, C0)]))
        self.assertTrue(exact(jumps(row=(A0, ["c", 0], B0, A1), page=PAGE), [(C0, B0)]))
        self.assertTrue(exact([jumps(EMPTY, []), jumps(DEAD, ())], [[], []]))
        # Rings through dead lines do not keep a row from being one.
        self.assertEqual(jumps(Page({A0: "", B0: ""}, [(A0, B0), (B0, A0)], [B0]), [A0]), [])

    def test_no_row(self):
        for thing in JUNK + [[A0, B0, C0], [A1, B0, C0, A0], [A0, B0, C0, A1, A1], [A0, A0, B0, C0], "abc", {}, None, (),
                             [A0, B0, C0, D0], {A0: 1, B0: 1, C0: 1, A1: 1}, [A0, B0, C0, ("a", True)]]:
            self.assertIs(caught(NoRow, jumps, PAGE, thing).thing, thing)
        for row in permutations([A0, A1, C0, D0]):
            self.assertIs(caught(NoRow, jumps, ROUND, row).thing, row)

    def test_fewest_orders(self):
        self.assertIn(fewest_orders(page=PAGE), [[(B0, C0)], [(C0, B0)]])
        self.assertIsNone(fewest_orders(ROUND))
        self.assertTrue(exact([fewest_orders(EMPTY), fewest_orders(DEAD)], [[], []]))
        self.assertEqual(len(fewest_orders(Page(LINES, [], []))), 3)
        # Two chains: one order, not as many as lines; a dead line in one of both.
        page = Page(dict.fromkeys([A0, A1, B0, C0, D0], ""), [(A0, A1), (A1, B0), (C0, D0)], [A1])
        self.assertIn(fewest_orders(page), [[(B0, C0)], [(D0, A0)]])

    def test_by_definition_and_facts(self):
        several = 0
        for rng in seeds(120):
            page = random_page(rng, 6, rng.random() < 0.3)
            ahead = slow_aheads(page)
            rows = slow_rows(page)
            counts = []
            for row in rows:
                wanted = [(a, b) for a, b in zip(row, row[1:]) if (a, b) not in ahead]
                self.assertTrue(exact(jumps(page, as_lists(row)), wanted))
                counts.append(len(wanted))
            told = fewest_orders(page)
            self.assertEqual(told is None, stayers(page) != page.live())
            if told is not None:
                self.assertTrue(exact(fewest_orders(Page(page.lines(), page.orders()[::-1], page.dead())), told))
                self.assertEqual(told, sorted(set(told)))
                self.assertIs(settles(page, told, []), True)
                self.assertEqual(len(told), min(counts))
                several += len(set(counts)) > 1
                self.assertGreaterEqual(len(told), len(columns(page)) - 1)
            self.assertEqual(rows_of(page), rows)
        self.assertGreater(several, 15)


class Cheapest(unittest.TestCase):
    def test_cheapest(self):
        self.assertTrue(exact(cheapest_settlement(PAGE, 0)[0], 0))
        for price in (2, 3, 10 ** 8):
            self.assertIn(cheapest_settlement(page=PAGE, price=price), [(1, [(B0, C0)], []), (1, [(C0, B0)], [])])
        self.assertEqual(cheapest_settlement(PAGE, 1)[0], 1)
        cost, orders, lines = cheapest_settlement(ROUND, 5)
        self.assertTrue(exact((cost, orders, lines), (10, [], [C0, D0])))
        for price in (0, 1, 7):
            self.assertTrue(exact(cheapest_settlement(EMPTY, price), (0, [], [])))
            self.assertTrue(exact(cheapest_settlement(DEAD, price), (0, [], [])))
        # Two lines round about, two more apart: the ring is buried, what is apart is ordered.
        page = Page(dict.fromkeys([A0, A1, B0, C0], ""), [(A0, A1), (A1, A0)], [])
        for price in (2, 5):
            self.assertIn(cheapest_settlement(page, price), [(1 + 2 * price, [pair], [A0, A1]) for pair in ((B0, C0), (C0, B0))])
        page = Page(dict.fromkeys([A0, A1, B0, C0], ""), [(A0, A1), (B0, C0), (A0, C0)], [])
        self.assertEqual(cheapest_settlement(page, 3), (1, [(A1, B0)], []))

    def test_bad_price(self):
        for thing in JUNK + [-1, True, False, None, "1", [1], (), {}, PAGE]:
            if thing is True or thing != 10 ** 17:
                self.assertIs(caught(BadPrice, cheapest_settlement, PAGE, thing).thing, thing)

    def test_by_definition_and_facts(self):
        mixed = 0
        for rng in seeds(200):
            page = random_page(rng, 5, rng.random() < 0.6)
            found = list(slow_settlements(page, 4))
            costs = []
            for price in (0, 1, 2, 3, 4, 10 ** 9 - 1):
                cost, orders, lines = cheapest_settlement(page, price)
                self.assertTrue(exact(cheapest_settlement(price=price, page=page), (cost, orders, lines)))
                self.assertEqual([orders, lines], [sorted(set(orders)), sorted(set(lines))])
                self.assertTrue(set(lines) <= set(page.live()))
                self.assertEqual(cost, len(orders) + price * len(lines))
                self.assertIs(settles(page, orders, lines), True)
                self.assertEqual(cost, min(many + price * count for many, count in found))
                lost = len(page.live()) - len(stayers(page))
                if price >= 3:
                    self.assertEqual(len(lines), lost)
                if price >= 2:
                    self.assertIn(cost - price * lost, [many for many, count in found if count == lost])
                costs.append(cost)
                mixed += len(orders) > 0 and len(lines) > 0
            self.assertEqual(costs, sorted(costs))
        self.assertGreater(mixed, 10)


class TwoHands(unittest.TestCase):
    def test_turned_pairs(self):
        self.assertTrue(exact(turned_pairs(PAGE, [(B0, C0)], [(C0, B0)]), [(B0, C0)]))
        self.assertTrue(exact(turned_pairs(other=([["b", 0], C0],), one=[(C0, B0)], page=PAGE), [(C0, B0)]))
        self.assertTrue(exact(turned_pairs(PAGE, [(B0, C0)], [(B0, C0)]), []))
        self.assertTrue(exact(turned_pairs(EMPTY, [], ()), []))
        free = Page(LINES, [], [])
        told = turned_pairs(free, [(A0, A1), (A1, B0), (B0, C0)], [(C0, B0), (B0, A1), (A1, A0)])
        self.assertEqual(told, list(combinations([A0, A1, B0, C0], 2)))

    def test_errors(self):
        page = Page(dict.fromkeys([A0, A1, B0, C0, D0], ""), ORDERS, [D0])
        right = [(B0, C0)]
        for thing in JUNK + [(A0, D0), (D0, A0), (A0, A0), (A0,), (A0, A1, B0), A0, 3, (A0, ("a", True)), (A0, ("q", 0))]:
            self.assertEqual(caught(BadOrders, turned_pairs, page, [(C0, B0), (B0, C0), thing, None], None).index, 2)
            self.assertEqual(caught(BadOrders, turned_pairs, page, [], [(C0, B0), thing, None]).index, 1)
        for thing in (None, True, 0, "", {}, PAGE, (A0, A1)):
            self.assertEqual(caught(BadOrders, turned_pairs, page, thing, [3]).index, 0)
            self.assertEqual(caught(BadOrders, turned_pairs, page, [], thing).index, 0)
        self.assertIs(caught(NotRead, turned_pairs, page, [], []).thing, 0)
        self.assertIs(caught(NotRead, turned_pairs, page, right, []).thing, 1)
        self.assertIs(caught(NotRead, turned_pairs, page, right, [(C0, B0), (B0, C0)]).thing, 1)
        self.assertIs(caught(NotRead, turned_pairs, page, [(C0, B0), (B0, C0)], right).thing, 0)
        self.assertEqual(turned_pairs(page, right, right), [])

    def test_by_definition_and_it_holds(self):
        turned = 0
        for rng in seeds(150):
            page = random_page(rng, 5, False)
            rows = rows_of(page)
            hands = []
            for _ in range(2):
                row = rng.choice(rows)
                orders = [pair for pair in combinations(row, 2) if rng.random() < 0.3] + list(zip(row, row[1:]))
                hands.append((row, orders))
            (one, first), (other, last) = hands
            told = turned_pairs(page, first, as_lists(last))
            wanted = sorted((a, b) for a, b in combinations(one, 2) if other.index(b) < other.index(a))
            self.assertTrue(exact(told, wanted))
            both = with_orders(page, first + last)
            self.assertEqual(reading(both) is not None, told == [])
            ahead = slow_aheads(both)
            self.assertEqual([line for line in page.live() if (line, line) in ahead],
                             sorted({line for pair in told for line in pair}))
            turned += len(told) > 0
        self.assertGreater(turned, 40)


if __name__ == "__main__":
    unittest.main()
