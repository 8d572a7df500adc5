"""Point 19, and point 2 for rows of bars."""

import copy
import inspect
import itertools
import random
import unittest

from barsplit import bars as module
from barsplit.bars import bar_row
from tests.helpers import (
    FORTY, PRIMES, Refusing, all_kinds, is_row, plainly_bar_row, plainly_led, rooms_of, some_bars, stretches, units)


class TestRowsOfBars(unittest.TestCase):
    def test_each_few_stretches_in_each_order(self):
        for ways in all_kinds(3):
            for size in range(4):
                for bars in itertools.product(stretches(len(ways) + 1), repeat=size):
                    told = bar_row(3, ways, list(bars))
                    self.assertTrue(is_row(told), (ways, bars))
                    self.assertEqual(told, plainly_bar_row(3, ways, bars))

    def test_drawn_bars_of_each_kind(self):
        for p in PRIMES:
            for ways in all_kinds():
                for together in (1, 9, 29, 30):
                    bars = some_bars(ways, len(ways) + 1, together)
                    told = bar_row(p, ways, bars)
                    self.assertTrue(is_row(told), bars)
                    self.assertEqual(told, plainly_bar_row(p, ways, bars))

    def test_any_order_is_the_same(self):
        source = random.Random("any order")
        for ways in all_kinds():
            bars = some_bars(f"order {ways}", len(ways) + 1, 20)
            asked = bar_row(5, ways, bars)
            for _ in range(3):
                source.shuffle(bars)
                self.assertEqual(bar_row(5, ways, bars), asked)
            self.assertEqual(bar_row(5, ways, sorted(bars, reverse=True)), asked)

    def test_each_bar_is_led_on_unchanged(self):
        for p in PRIMES:
            for ways in all_kinds():
                bars = sorted(some_bars(f"led {ways}", len(ways) + 1, 15))
                row = bar_row(p, ways, bars)
                for k, (way, table) in enumerate(row[2]):
                    begin, end = rooms_of(k, way)
                    here, there = ([bar for bar in enumerate(bars) if bar[1][0] <= room <= bar[1][1]]
                                   for room in (begin, end))
                    for bar, unit in zip(here, units(row[1][begin])):
                        asked = tuple(int(other == bar) for other in there)
                        self.assertEqual(plainly_led(p, table, unit), asked)

    def test_no_stretch_at_all(self):
        for p in PRIMES:
            for ways in all_kinds():
                asked = (p, (0,) * (len(ways) + 1), tuple((way, (0, 0, ())) for way in ways))
                self.assertEqual(bar_row(p, ways, []), asked)

    def test_ways_of_no_letter(self):
        for p in PRIMES:
            self.assertEqual(bar_row(p, "", []), (p, (0,), ()))
            self.assertEqual(bar_row(p, "", [(0, 0)]), (p, (1,), ()))
            self.assertEqual(bar_row(p, "", [(0, 0)] * 30), (p, (30,), ()))

    def test_known_rows(self):
        self.assertEqual(bar_row(5, "r", [(0, 1)]), (5, (1, 1), (("r", (1, 1, ((1,),))),)))
        self.assertEqual(bar_row(5, "l", [(1, 1), (0, 1), (0, 0)]),
                         (5, (2, 2), (("l", (2, 2, ((0, 0), (1, 0)))),)))
        self.assertEqual(bar_row(5, "r", [(1, 1), (0, 1), (0, 0)]),
                         (5, (2, 2), (("r", (2, 2, ((0, 1), (0, 0)))),)))
        # Two alike stretches are two.
        self.assertEqual(bar_row(2, "r", [(0, 1), (0, 1)]), (2, (2, 2), (("r", (2, 2, ((1, 0), (0, 1)))),)))
        self.assertEqual(bar_row(2, "rl", [(2, 2), (0, 2), (1, 1), (0, 2)]), (
            2, (2, 3, 3),
            (("r", (3, 2, ((1, 0), (0, 1), (0, 0)))), ("l", (3, 3, ((1, 0, 0), (0, 1, 0), (0, 0, 0)))))))
        # Those that begin alike are sorted by their ends.
        self.assertEqual(bar_row(7, "rr", [(1, 1), (0, 2), (1, 2), (0, 1)])[2], (
            ("r", (4, 2, ((1, 0), (0, 1), (0, 0), (0, 0)))), ("r", (2, 4, ((0, 1, 0, 0), (0, 0, 0, 1))))))


class TestRefusals(Refusing, unittest.TestCase):
    def test_another_letter(self):
        for ways in ("x", "R", "L", " ", "1", "-", ">", "rx", "xr", "lrlrx", "xlrlr", "lrxlr", "r l", "r\n", "rL"):
            self.refused("NoRow", {}, bar_row, 5, ways, [])
            self.refused("NoRow", {}, bar_row, 5, ways, [(0, 0)])

    def test_more_than_five_letters(self):
        self.assertTrue(is_row(bar_row(5, "rlrlr", [(0, 5)])))
        for ways in ("rlrlrl", "r" * 6, "l" * 7, "r" * 600, "xxxxxx", "rlrlr "):
            self.refused("NoRow", {}, bar_row, 5, ways, [])
            self.refused("NoRow", {}, bar_row, 5, ways, [(0, 5)])

    def test_stretches_of_other_rooms(self):
        for many in range(1, 7):
            ways = "rlrlr"[:many - 1]
            for i, j in itertools.product(list(range(-7, 9)) + [FORTY, -FORTY], repeat=2):
                if (i, j) in stretches(many):
                    self.assertTrue(is_row(bar_row(3, ways, [(i, j)])))
                else:
                    self.refused("NoRow", {}, bar_row, 3, ways, [(i, j)])

    def test_one_wrong_stretch_among_right_ones(self):
        for wrong in ((-1, 0), (-1, -1), (0, 3), (3, 3), (1, 0), (2, 1), (2, 0), (-1, 3)):
            for place in range(4):
                bars = [(0, 2), (1, 1), (2, 2)]
                bars.insert(place, wrong)
                self.refused("NoRow", {}, bar_row, 7, "lr", bars)

    def test_thirty_is_the_most(self):
        for p in PRIMES:
            for ways in all_kinds():
                many = len(ways) + 1
                bars = some_bars(f"most {ways}", many, 30)
                self.assertEqual(sum(bar_row(p, ways, bars)[1]), 30)
                for room in range(many):
                    self.refused("TooMany", {}, bar_row, p, ways, bars + [(room, room)])
                self.refused("TooMany", {}, bar_row, p, ways, bars + [(0, many - 1)])
                self.refused("TooMany", {}, bar_row, p, ways, some_bars(f"most {ways}", many, 31))
                self.refused("TooMany", {}, bar_row, p, ways, [(0, many - 1)] * 31)

    def test_few_long_bars_are_too_many(self):
        self.assertEqual(bar_row(2, "rrrrr", [(0, 5)] * 5)[1], (5,) * 6)
        self.refused("TooMany", {}, bar_row, 2, "rrrrr", [(0, 5)] * 5 + [(3, 3)])
        self.refused("TooMany", {}, bar_row, 2, "rrrrr", [(0, 5)] * 6)

    def test_no_row_ahead_of_too_many(self):
        self.refused("NoRow", {}, bar_row, 2, "x", [(0, 1)] * 31)
        self.refused("NoRow", {}, bar_row, 2, "rrrrrr", [(0, 6)] * 31)
        self.refused("NoRow", {}, bar_row, 2, "r", [(0, 1)] * 31 + [(0, 2)])
        self.refused("NoRow", {}, bar_row, 2, "r", [(1, 0)] + [(0, 1)] * 31)
        self.refused("NoRow", {}, bar_row, 2, "", [(0, 0)] * 31 + [(-1, 0)])

    def test_other_kinds_are_refused(self):
        for bar in ((0, True), (False, 1), (0,), (0, 1, 1), (), "01", None, 0, ("0", "1")):
            self.refused("NoRow", {}, bar_row, 5, "r", [(0, 1), bar])
        for ways in (None, 0, ["x"]):
            self.refused("NoRow", {}, bar_row, 5, ways, [])


class TestHanding(unittest.TestCase):
    def test_what_is_handed_in_stays_and_may_be_changed_later(self):
        for ways in all_kinds():
            bars = some_bars(f"stays {ways}", len(ways) + 1, 11)
            before = copy.deepcopy(bars)
            told = bar_row(5, ways, bars)
            self.assertEqual(bars, before)
            bars.append((0, 0))
            bars.reverse()
            self.assertEqual(told, plainly_bar_row(5, ways, before))
            self.assertEqual(bar_row(5, ways, before), told)

    def test_what_is_refused_stays(self):
        bars = [(1, 1), (0, 1), (0, 2)]
        with self.assertRaises(ValueError):
            bar_row(5, "r", bars)
        self.assertEqual(bars, [(1, 1), (0, 1), (0, 2)])

    def test_names_of_the_arguments(self):
        self.assertEqual(list(inspect.signature(module.bar_row).parameters), ["p", "ways", "bars"])


if __name__ == "__main__":
    unittest.main()
