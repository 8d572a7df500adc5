"""Point 25, what point 3 says of rows that are alike, and point 2 for what is told of them."""

import copy
import inspect
import itertools
import random
import unittest

from barsplit.alike import alike
from barsplit.bars import bar_row
from barsplit.links import numbers
from barsplit.ways import count_ways
from tests.helpers import (
    PRIMES, Refusing, all_kinds, all_tables, in_some_turns, is_way, plainly_bar_row, plainly_product,
    rows_of_all_tables, some_bars, some_row, some_rows_of_rooms, some_widths, stretches, turned_row, units_table,
    ways_by_bars, ways_in)


def otherwise_cut(seed, bars):
    """Other bars of the same widths: one is cut in two, or two change their ends; None where there is no such thing."""
    changes = []
    for at, (i, j) in enumerate(bars):
        rest = bars[:at] + bars[at + 1:]
        changes += [rest + [(i, mid), (mid + 1, j)] for mid in range(i, j)]
        for place, (k, m) in enumerate(rest):
            if i < k <= j < m:
                changes.append(rest[:place] + rest[place + 1:] + [(i, m), (k, j)])
    return random.Random(f"cut {seed} {len(changes)}").choice(changes) if changes else None


class Telling(unittest.TestCase):
    def undone(self, p, widths, there, back):
        """That the tables of two ways are the backs of one another."""
        for wide, first, second in zip(widths, there, back):
            self.assertEqual(plainly_product(p, first, second), units_table(wide))
            self.assertEqual(plainly_product(p, second, first), units_table(wide))

    def told_alike(self, one, other):
        told = alike(one, other)
        self.assertIs(type(told), tuple)
        self.assertEqual((len(told), told[0]), (3, "alike"), (one, other, told))
        _, there, back = told
        self.assertTrue(is_way(one, other, there), (one, other, told))
        self.assertTrue(is_way(other, one, back), (one, other, told))
        self.undone(one[0], one[1], there, back)

    def told_apart(self, one, other, ones, others):
        """That two rows, given their bars, are told apart as they should be."""
        told = alike(one, other)
        self.assertIs(type(told), tuple)
        self.assertEqual((len(told), told[0]), (5, "apart"), (one, other, told))
        _, stretch, many, often, bar = told
        asked = next(at for at in stretches(len(one[1])) if ones.count(at) != others.count(at))
        self.assertEqual(stretch, asked, (one, other))
        self.assertEqual((many, often), (ones.count(asked), others.count(asked)), (one, other))
        self.assertEqual([type(many), type(often)], [int, int])
        self.assertEqual([type(bar)] + [type(room) for room in bar], [tuple, int, int])
        self.assertIn(bar, stretches(len(one[1])))
        ways = ways_in(one)
        self.assertNotEqual(ways_by_bars(ways, ones, [bar]), ways_by_bars(ways, others, [bar]), (one, other, told))
        goal = bar_row(one[0], ways, [bar])
        self.assertNotEqual(count_ways(one, goal), count_ways(other, goal), (one, other, told))


class TestAlike(Telling):
    def test_bars_in_two_turns(self):
        for p in PRIMES:
            for ways in all_kinds():
                for together in (0, 1, 6, 14):
                    bars = some_bars(f"alike {ways}", len(ways) + 1, together)
                    self.told_alike(turned_row("one", p, ways, bars), turned_row("other", p, ways, bars))

    def test_thirty_together(self):
        for p in PRIMES:
            for ways in all_kinds()[::3] + ["rlrlr", "lrlrl"]:
                bars = some_bars(f"thirty {ways}", len(ways) + 1, 30)
                self.told_alike(turned_row("one", p, ways, bars), turned_row("other", p, ways, bars))

    def test_drawn_tables_in_turns(self):
        for p in PRIMES:
            for row in some_rows_of_rooms(p):
                self.told_alike(row, in_some_turns("drawn", row))
                self.told_alike(in_some_turns("drawn", row), row)

    def test_each_row_to_itself(self):
        for p in PRIMES:
            for row in some_rows_of_rooms(p):
                self.told_alike(row, row)

    def test_rows_without_numbers(self):
        for p in PRIMES:
            for ways in all_kinds():
                many = len(ways) + 1
                row = some_row("none", p, ways, (0,) * many)
                self.assertEqual(alike(row, row), ("alike", [(0, 0, ())] * many, [(0, 0, ())] * many))

    def test_known_rows(self):
        one, two = (5, (1, 1), (("r", (1, 1, ((1,),))),)), (5, (1, 1), (("r", (1, 1, ((2,),))),))
        self.told_alike(one, two)
        self.told_alike((7, (4,), ()), (7, (4,), ()))
        first = (3, (1, 2, 1), (("r", (2, 1, ((1,), (2,)))), ("l", (2, 1, ((2,), (1,))))))
        self.told_alike(first, (3, (1, 2, 1), (("r", (2, 1, ((0,), (1,)))), ("l", (2, 1, ((0,), (1,)))))))


class TestApart(Telling):
    def test_the_same_widths_and_other_bars(self):
        found = 0
        for p in PRIMES:
            for ways in all_kinds()[1:]:
                for together in (2, 7, 15):
                    ones = some_bars(f"apart {ways}", len(ways) + 1, together)
                    others = otherwise_cut(ways, ones)
                    if others is not None:
                        one, other = turned_row("one", p, ways, ones), turned_row("other", p, ways, others)
                        self.assertEqual(one[1], other[1])
                        self.told_apart(one, other, ones, others)
                        self.told_apart(other, one, others, ones)
                        found += 1
        self.assertGreater(found, 400)

    def test_thirty_together(self):
        for p in PRIMES:
            for ways in ("rlrlr", "lrlrl", "rrrrr", "lllll", "rrlrr", "lr", "r", "l"):
                ones = some_bars(f"wide {ways}", len(ways) + 1, 30)
                others = otherwise_cut(f"wide {ways}", ones)
                self.told_apart(turned_row("one", p, ways, ones), turned_row("other", p, ways, others), ones, others)

    def test_unlike_widths(self):
        for p in PRIMES:
            for ways in all_kinds():
                ones, others = (some_bars(f"{side} {ways}", len(ways) + 1, many) for side, many in (("a", 8), ("b", 9)))
                self.told_apart(turned_row("one", p, ways, ones), turned_row("other", p, ways, others), ones, others)
                self.told_apart(turned_row("one", p, ways, ones), turned_row("other", p, ways, []), ones, [])
                self.told_apart(turned_row("one", p, ways, []), turned_row("other", p, ways, others), [], others)

    def test_one_bar_against_each_other_one(self):
        for ways in all_kinds():
            for one, other in itertools.permutations(stretches(len(ways) + 1), 2):
                if len(ways) < 4 or (one[0] + other[1]) % 3 == 0:
                    self.told_apart(plainly_bar_row(5, ways, [one]), plainly_bar_row(5, ways, [other]), [one], [other])

    def test_known_rows(self):
        one = (5, (1, 2, 1), (("r", (2, 1, ((1,), (2,)))), ("l", (2, 1, ((2,), (4,))))))
        other = (5, (1, 2, 1), (("r", (2, 1, ((1,), (2,)))), ("l", (2, 1, ((2,), (3,))))))
        self.assertEqual(alike(one, other)[:4], ("apart", (0, 1), 0, 1))
        self.assertEqual(alike(other, one)[:4], ("apart", (0, 1), 1, 0))
        self.assertEqual(alike((2, (3,), ()), (2, (5,), ())), ("apart", (0, 0), 3, 5, (0, 0)))
        nought, same = ((3, (1, 1), (("l", (1, 1, ((x,),))),)) for x in (0, 2))
        self.assertEqual(alike(nought, same)[:4], ("apart", (0, 0), 1, 0))
        # Of two stretches that begin alike, the one that ends first comes first.
        one, other = (plainly_bar_row(3, "rr", bars) for bars in ([(0, 2), (0, 2), (1, 1)], [(0, 2), (0, 1), (1, 2)]))
        self.assertEqual(alike(one, other)[:4], ("apart", (0, 1), 0, 1))


class TestAlikeOrApart(Telling):
    def told_as_their_numbers_tell(self, one, other):
        known = [numbers(row) for row in (one, other)]
        if known[0] == known[1]:
            self.told_alike(one, other)
        else:
            bars = [[bar for bar in often for _ in range(often[bar])] for often in known]
            self.told_apart(one, other, *bars)
        return known[0] == known[1]

    def test_drawn_tables_of_the_same_widths(self):
        found = {True: 0, False: 0}
        for p in PRIMES:
            for ways in all_kinds():
                for seed in range(3):
                    widths = some_widths(f"same {seed} {ways}", len(ways) + 1)
                    one, other = (some_row(f"{side} {seed}", p, ways, widths) for side in ("one", "other"))
                    found[self.told_as_their_numbers_tell(one, other)] += 1
        self.assertGreater(min(found.values()), 100)

    def test_drawn_tables_of_any_widths(self):
        for p in PRIMES:
            for ways in all_kinds():
                one, other = (some_row(side, p, ways, some_widths(f"{side} {ways}", len(ways) + 1))
                              for side in ("one", "other"))
                self.told_as_their_numbers_tell(one, other)

    def test_small_rows_against_all_ways_gone_through(self):
        for p, widths in ((2, (1, 1)), (3, (1, 1)), (2, (1, 2)), (2, (1, 1, 1)), (2, (1, 2, 1))):
            turns = [[table for table in all_tables(p, wide, wide) if has_back(p, table)] for wide in widths]
            chosen = [list(tables) for tables in itertools.product(*turns)]
            for ways in itertools.product("rl", repeat=len(widths) - 1):
                rows = list(rows_of_all_tables(p, ways, widths))
                for one, other in itertools.product(rows, repeat=2):
                    asked = any(is_way(one, other, tables) for tables in chosen)
                    self.assertEqual(self.told_as_their_numbers_tell(one, other), asked, (one, other))


def has_back(p, table):
    many = table[0]
    return any(plainly_product(p, table, other) == units_table(many) for other in all_tables(p, many, many))


class TestRefusals(Refusing, unittest.TestCase):
    def test_unlike_rows(self):
        kinds = list(itertools.product((2, 3, 7), all_kinds(4)))
        for (p, first), (q, second) in itertools.permutations(kinds, 2):
            for widths in ((1, 2, 0, 1), (0,) * 4, (8, 7, 7, 8)):
                one, other = (some_row("unlike", prime, ways, widths[:len(ways) + 1])
                              for prime, ways in ((p, first), (q, second)))
                self.refused("Unlike", {}, alike, one, other)


class TestHanding(unittest.TestCase):
    def test_what_was_told_may_be_spoilt(self):
        for p in PRIMES:
            for row in some_rows_of_rooms(p, 4):
                other = in_some_turns("handing", row)
                before = copy.deepcopy((row, other))
                told = alike(row, other)
                asked = copy.deepcopy(told)
                for part in told[1:]:
                    part.append("spoilt")
                    part.reverse()
                self.assertEqual((row, other), before)
                self.assertEqual(alike(row, other), asked)
                self.assertEqual(alike(*before), asked)

    def test_there_and_back_are_two_lists(self):
        _, there, back = alike((2, (0,), ()), (2, (0,), ()))
        there.clear()
        self.assertEqual(back, [(0, 0, ())])

    def test_apart_again_is_told_the_same(self):
        for p in PRIMES:
            one, other = (plainly_bar_row(p, "rl", bars) for bars in ([(0, 2), (1, 1)], [(0, 1), (1, 2)]))
            before = copy.deepcopy((one, other))
            told = alike(one, other)
            self.assertEqual((one, other), before)
            self.assertEqual(alike(*before), told)

    def test_names_of_the_arguments(self):
        self.assertEqual(list(inspect.signature(alike).parameters), ["one", "other"])


if __name__ == "__main__":
    unittest.main()
