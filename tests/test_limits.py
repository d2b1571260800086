"""Points 18, 30, 42 and 43: calls within the limits come back with their answers."""

import random
import unittest
from itertools import combinations
from math import comb, factorial

from patchlots.bares import Bare, bare_of, put_together
from patchlots.crossing import lot_of_run, run_of_lot
from patchlots.histories import (
    histories, how_many_histories, how_many_parts, is_history, least_alike, parts_of,
)
from patchlots.lots import Lot, burials_at, page_of
from patchlots.lottexts import read_lot, write_lot
from patchlots.needs import (
    greatest_without, is_needs_chain, least_with, longest_needs, needs_chain, rounds_of, sent_to,
)
from patchlots.pages import Page
from patchlots.pagetexts import read_page, write_page
from patchlots.patches import Patch
from patchlots.reading import between, gone, is_ahead, is_ring, reading, ring, text_of, unordered
from patchlots.rows import all_between, how_many_rows, is_row, page_of_rows, rows_of, seen
from patchlots.runs import all_leads, fewest_passes, led_to, put_beside, stuck_pairs, text_behind

LINES = [("l", number) for number in range(40)]
CHAIN = list(zip(LINES, LINES[1:]))


def page_with(orders, dead=(), lines=LINES):
    return Page({line: "w" * 200 for line in lines}, orders, dead)


class PageLimits(unittest.TestCase):
    def test_forty_lines_and_two_hundred_orders(self):
        rng = random.Random(1)
        for dead in ([], LINES[1::2], LINES):
            orders = CHAIN + rng.sample(list(combinations(LINES, 2)), 161)
            page = page_with(orders, dead)
            live = [line for line in LINES if line not in dead]
            self.assertEqual(reading(page), live)
            self.assertEqual(text_of(page), ["w" * 200 for _ in live])
            self.assertEqual(rows_of(page), [live])
            self.assertEqual([unordered(page), ring(page)], [None, None])
            self.assertEqual(seen(page), page_with(list(zip(live, live[1:])), [], live))
            self.assertEqual(between(page, LINES[0], LINES[39]), LINES[1:39])
            self.assertEqual(read_page(write_page(page)), page)
            beside = {line: [set(order) & set(dead) for order in page.orders() if line in order] for line in live}
            self.assertEqual(gone(page), [line for line in live if all(beside[line])])
            turned = page_with(orders + [(LINES[39], LINES[0])], dead)
            self.assertEqual(reading(turned), None if live else [])
            self.assertEqual(ring(turned) is not None and is_ring(turned, ring(turned)), live != [])

    def test_a_ring_of_forty_lines_one_of_them_live(self):
        page = page_with(CHAIN + [(LINES[39], LINES[0])], LINES[:39])
        self.assertEqual(sorted(ring(page)), LINES)
        self.assertEqual([rows_of(page), how_many_rows(page), reading(page)], [[LINES[39:]], 1, None])
        self.assertIs(is_ahead(page, LINES[39], LINES[39]), True)

    def test_rows_of_forty_live_lines(self):
        free = [number for number in range(0, 27, 3)]
        orders = [(LINES[at], LINES[at + 1]) for at in range(39) if at not in free]
        orders += [(LINES[at - 1], LINES[at + 1]) for at in free if at]
        orders += [(LINES[at], LINES[at + 2]) for at in free]
        page = page_with(orders)
        rows = rows_of(page)
        self.assertEqual(len(rows), 2 ** 9)
        self.assertEqual(rows[0], LINES)
        self.assertEqual(how_many_rows(page), 2 ** 9)
        self.assertTrue(all(is_row(page, row) for row in rows))
        lines = {line: "" for line in LINES}
        self.assertEqual(reading(page_of_rows(lines, [rows[0]] * 1000)), LINES)
        self.assertEqual(seen(page_of_rows(lines, rows + rows[:488])).orders(), seen(page).orders())
        self.assertEqual(all_between(lines, rows), rows)

    def test_rows_in_rings_of_many_lines(self):
        page = page_with([(LINES[0], LINES[1]), (LINES[1], LINES[0])])
        self.assertEqual([rows_of(page), how_many_rows(page)], [[], 0])
        self.assertIs(is_row(page, LINES), False)

    def test_twelve_live_lines(self):
        self.assertEqual(how_many_rows(page_with(CHAIN[12:], LINES[12:])), factorial(12))
        pairs = [(LINES[at], LINES[at + 1]) for at in range(0, 12, 2)]
        self.assertEqual(how_many_rows(page_with(pairs, LINES[12:])), factorial(12) // 2 ** 6)


def great_lot():
    """Thirty patches of eight lines, twelve orders, eight burials and fourteen backs where they can."""
    rng = random.Random(2)
    patches = []
    lines = []
    for number in range(30):
        name = f"p{number}"
        own = [(name, index) for index in range(8)]
        orders = [(a, b) for a, b in zip(lines[-1:] + own, own)] if lines else list(zip(own, own[1:]))
        orders += [(rng.choice(lines), line) for line in own[:4] if lines]
        burials = rng.sample(lines, 8) if lines else []
        backs = [(patch.called(), line) for patch in patches[1:] for line in patch.burials()]
        patches.append(Patch(name, [f"w{index}" for index in range(8)], orders, burials,
                             rng.sample(backs, min(14, len(backs)))))
        lines += own
    return Lot(patches[::-1])


class LotLimits(unittest.TestCase):
    def test_thirty_patches(self):
        lot = great_lot()
        names = [f"p{number}" for number in range(30)]
        self.assertEqual([len(lot), lot.names()], [30, sorted(names)])
        page = page_of(lot)
        live = sorted(page.live(), key=lambda line: (int(line[0][1:]), line[1]))
        self.assertEqual(len(page.lines()), 240)
        self.assertEqual(reading(page), live)
        self.assertEqual(len(text_of(page)), len(live))
        self.assertEqual([unordered(page), ring(page), rows_of(page)], [None, None, [live]])
        self.assertEqual(how_many_rows(page), 1)
        self.assertEqual(reading(seen(page)), live)
        self.assertEqual(read_page(write_page(page)), page)
        self.assertEqual(read_lot(write_lot(lot)), lot)
        self.assertEqual(sent_to(Lot([]), lot), names)
        self.assertEqual([histories(lot), how_many_histories(lot)], [[names], 1])
        self.assertIs(is_history(lot, names), True)
        self.assertEqual(rounds_of(lot), [[name] for name in names])
        self.assertEqual(longest_needs(lot), names)
        self.assertEqual(least_with(lot, ["p29"]), lot)
        self.assertEqual(greatest_without(lot, ["p0"]), Lot([]))
        self.assertIs(is_needs_chain(lot, "p29", "p0", needs_chain(lot, "p29", "p0")), True)
        self.assertEqual([how_many_parts(lot), len(parts_of(lot))], [31, 31])
        self.assertEqual(least_alike(lot), lot.names())
        self.assertEqual((lot | least_with(lot, ["p10"])) & lot, lot)
        self.assertEqual(len(bare_of(page)), 240)
        for line in live[:5]:
            self.assertTrue(set(burials_at(lot, line)) <= set(names))

    def test_a_ring_of_all_lines_of_a_great_lot(self):
        lot = great_lot()
        turning = Patch("z", [], [(("p29", 7), ("p0", 0))], [(f"p{number}", 3) for number in range(29)])
        page = page_of(lot | Lot([turning] + [lot.patch_of(name) for name in lot.names()]))
        self.assertIsNone(reading(page))
        self.assertIs(is_ring(page, ring(page)), True)
        self.assertEqual(rows_of(page), [])
        self.assertIs(is_ahead(page, ("p29", 0), ("p0", 0)), True)

    def test_a_thousand_histories(self):
        def needing(name, *others):
            return Patch(name, ["x"], [((other, 0), (name, 0)) for other in others])

        chain = [needing("a0")] + [needing(f"a{at}", f"a{at - 1}") for at in range(1, 22)]
        lot = Lot(chain + [needing("b", "a10"), needing("c", "a12"), needing("d", "a18")])
        self.assertEqual(how_many_histories(lot), len(histories(lot)))
        self.assertTrue(500 < how_many_histories(lot) <= 1000)
        pairs = [needing("s"), needing("t", "s")]
        for at in range(9):
            before = [f"q{at - 1}", f"r{at - 1}"] if at else ["t"]
            pairs += [needing(f"q{at}", *before), needing(f"r{at}", *before)]
        self.assertEqual(len(histories(Lot(pairs))), 2 ** 9)
        self.assertTrue(all(is_history(Lot(pairs), told) for told in histories(Lot(pairs))[::100]))

    def test_ten_patches(self):
        lot = Lot([Patch(f"p{number}", []) for number in range(10)])
        self.assertEqual([how_many_histories(lot), how_many_parts(lot)], [factorial(10), 1024])
        self.assertEqual([len(told) for told in parts_of(lot)].count(3), comb(10, 3))
        self.assertEqual(least_alike(lot), [])
        ground = Patch("g", ["w"] * 8, [])
        lines = ground.own_lines()
        orders = list(combinations(lines, 2))[:12]
        others = [Patch(f"p{number}", [], orders, lines) for number in range(8)]
        back = Patch("z", [], [], [], [(f"p{number}", line) for number in range(2) for line in lines[:7]])
        self.assertEqual(least_alike(Lot([ground, back] + others)), ["g", "p0"])


class RunLimits(unittest.TestCase):
    def test_eight_great_steps(self):
        text = [f"w{number}" for number in range(40)]
        run = []
        behind = text
        for number, name in enumerate("abcdefgh"):
            place = 30 - number * 4 if number % 2 else 0
            change = (place, behind[place:place + 20], [f"{name}{at}" for at in range(20)])
            run.append((name, change))
            behind = behind[:place] + change[2] + behind[place + 20:]
        self.assertEqual(text_behind(text, run), behind)
        lot = lot_of_run("ground", text, run)
        self.assertEqual(text_of(page_of(lot)), [""] + behind + [""])
        self.assertEqual(run_of_lot("ground", lot, list("abcdefgh")), run)
        self.assertEqual(read_lot(write_lot(lot)), lot)
        self.assertEqual(led_to(text, run, list("abcdefgh")), run)
        self.assertIn(list("abcdefgh"), all_leads(text, run))

    def test_many_leads(self):
        text = [f"w{number}" for number in range(40)]
        run = [(name, (place, [text[place + number]], []))
               for number, (name, place) in enumerate(zip("abcdef", (0, 4, 8, 12, 16, 20)))]
        leads = all_leads(text, run)
        self.assertEqual(len(leads), 720)
        self.assertEqual(stuck_pairs(text, run), [])
        run += [("g", (20, [], ["x"])), ("h", (20, ["x"], []))]
        self.assertEqual(led_to(text, run, list("edcbafgh"))[5:], [("f", (20, ["w25"], [])), run[6], run[7]])
        self.assertEqual(len(fewest_passes(text, run, list("edcbafgh"))), 10)
        other = [("k", (40, [], ["y"])), ("l", (33, ["w33"], []))]
        self.assertEqual(put_beside(text, run, other), [("k", (34, [], ["y"])), ("l", (27, ["w33"], []))])


class BareLimits(unittest.TestCase):
    def test_twelve_points(self):
        arrows = [(one, other) for one in range(12) for other in range(12)][:40]
        bare = Bare(["w"] * 12, arrows, range_list(12))
        self.assertEqual(len(bare.aheads()), 4 * 12)
        self.assertEqual(put_together(bare, [0] * 12), Bare(["w"], [(0, 0)], [0]))
        self.assertEqual(put_together(bare, range_list(12)), bare)


def range_list(count):
    return list(range(count))


if __name__ == "__main__":
    unittest.main()
