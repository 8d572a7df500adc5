"""Point 20, what point 3 says of it, and point 2 for papers."""

import copy
import inspect
import itertools
import unittest

from barsplit.bars import bar_row
from barsplit.barring import barred
from barsplit.links import numbers
from barsplit.rows import in_turns, ways_of
from tests.helpers import (
    PRIMES, all_kinds, is_table, plainly_bar_row, plainly_in_turns, plainly_product, rows_of_all_tables, some_row,
    some_rows_of_rooms, some_widths, stretches, turned_bars, units_table)

FULL = ((30,), (0, 30), (30, 0), (15, 15), (10, 10, 10), (0, 20, 10), (12, 3, 15), (7, 8, 8, 7), (1, 14, 1, 14),
        (6, 6, 6, 6, 6), (5, 5, 5, 5, 5, 5), (3, 8, 1, 9, 5, 4), (0, 0, 30, 0, 0, 0))


class TestPapers(unittest.TestCase):
    def looked_at(self, row):
        """That the paper is one of this row; told are its bars."""
        p, widths, _ = row
        told = barred(row)
        self.assertIs(type(told), tuple)
        self.assertEqual([type(part) for part in told], [list] * 3)
        bars, turns, backs = told
        self.assertEqual((len(turns), len(backs)), (len(widths), len(widths)))
        for wide, turn, back in zip(widths, turns, backs):
            same = units_table(wide)
            self.assertTrue(is_table(p, turn) and is_table(p, back), (row, told))
            self.assertEqual((turn[:2], back[:2]), ((wide, wide), (wide, wide)))
            self.assertEqual(plainly_product(p, turn, back), same, row)
            self.assertEqual(plainly_product(p, back, turn), same, row)
        self.assertEqual(bars, sorted(bars))
        for bar in bars:
            self.assertEqual([type(bar)] + [type(room) for room in bar], [tuple, int, int])
            self.assertIn(bar, stretches(len(widths)))
        ways = "".join(way for way, _ in row[2])
        self.assertEqual(plainly_in_turns(row, turns, backs), plainly_bar_row(p, ways, bars), (row, told))
        return bars

    def test_drawn_bars_put_in_turns(self):
        for p in PRIMES:
            for ways in all_kinds():
                for together in (1, 5, 14):
                    bars, row = turned_bars(f"barred {ways}", p, ways, together)
                    self.assertEqual(self.looked_at(row), sorted(bars), row)

    def test_thirty_drawn_together(self):
        for p in PRIMES:
            for ways in all_kinds()[::3] + ["rlrlr", "lrlrl"]:
                bars, row = turned_bars(f"barred {ways}", p, ways, 30)
                self.assertEqual(self.looked_at(row), sorted(bars), row)

    def test_drawn_tables_of_each_kind(self):
        for p in PRIMES:
            for row in some_rows_of_rooms(p):
                self.looked_at(row)

    def test_drawn_tables_of_thirty_together(self):
        for p in PRIMES:
            for widths in FULL:
                for ways in (("r" * 5), ("l" * 5), "rlrlr", "lrlrl", "rrllr", "lrrll"):
                    self.looked_at(some_row("full", p, ways[:len(widths) - 1], widths))

    def test_each_small_row(self):
        for widths in itertools.chain(*(itertools.product(range(3), repeat=many) for many in (1, 2, 3))):
            for ways in all_kinds(3):
                if len(ways) == len(widths) - 1:
                    for row in rows_of_all_tables(2, ways, widths):
                        self.looked_at(row)

    def test_each_row_of_width_one(self):
        for p, most in ((2, 6), (3, 4), (5, 3), (7, 3)):
            for ways in all_kinds(most):
                for row in rows_of_all_tables(p, ways, (1,) * (len(ways) + 1)):
                    self.looked_at(row)

    def test_the_bars_are_as_many_as_their_numbers(self):
        for p in PRIMES:
            for row in some_rows_of_rooms(p):
                often = numbers(row)
                asked = [stretch for stretch in stretches(len(row[1])) for _ in range(often[stretch])]
                self.assertEqual(barred(row)[0], asked)

    def test_put_in_the_turns_by_the_program_it_is_the_row_of_the_bars(self):
        for p in PRIMES:
            for row in some_rows_of_rooms(p):
                bars, turns, backs = barred(row)
                self.assertEqual(in_turns(row, turns, backs), bar_row(p, ways_of(row), bars))

    def test_rows_of_bars_have_these_bars(self):
        for p in PRIMES:
            for ways in all_kinds():
                bars = turned_bars(f"plain {ways}", p, ways, 13)[0]
                self.assertEqual(self.looked_at(bar_row(p, ways, bars)), sorted(bars))

    def test_rows_without_numbers_or_with_nought_tables(self):
        for p in PRIMES:
            for ways in all_kinds():
                many = len(ways) + 1
                self.assertEqual(barred(some_row("none", p, ways, (0,) * many)),
                                 ([], [(0, 0, ())] * many, [(0, 0, ())] * many))
                widths = some_widths(f"noughts {ways}", many)
                single = [(room, room) for room, wide in enumerate(widths) for _ in range(wide)]
                self.assertEqual(self.looked_at(plainly_bar_row(p, ways, single)), single)

    def test_known_bars(self):
        self.assertEqual(self.looked_at((5, (3,), ())), [(0, 0)] * 3)
        row = (5, (2, 3, 0), (("r", (3, 2, ((1, 0), (0, 4), (0, 0)))), ("l", (3, 0, ((), (), ())))))
        self.assertEqual(self.looked_at(row), [(0, 1), (0, 1), (1, 1)])
        row = (5, (1, 2, 1), (("r", (2, 1, ((1,), (2,)))), ("l", (2, 1, ((2,), (4,))))))
        self.assertEqual(self.looked_at(row), [(0, 2), (1, 1)])
        row = (5, (1, 2, 1), (("r", (2, 1, ((1,), (2,)))), ("l", (2, 1, ((2,), (3,))))))
        self.assertEqual(self.looked_at(row), [(0, 1), (1, 2)])
        row = (3, (1, 1, 1), (("l", (1, 1, ((2,),))), ("r", (1, 1, ((2,),)))))
        self.assertEqual(self.looked_at(row), [(0, 2)])


class TestHanding(unittest.TestCase):
    def test_what_was_told_may_be_spoilt(self):
        for p in PRIMES:
            for row in some_rows_of_rooms(p, 4):
                before = copy.deepcopy(row)
                told = barred(row)
                asked = copy.deepcopy(told)
                for part in told:
                    part.append("spoilt")
                    part.reverse()
                self.assertEqual(row, before)
                self.assertEqual(barred(row), asked)
                self.assertEqual(barred(before), asked)

    def test_the_three_lists_are_three(self):
        bars, turns, backs = barred((2, (0,), ()))
        self.assertEqual((bars, turns, backs), ([], [(0, 0, ())], [(0, 0, ())]))
        turns.clear()
        self.assertEqual((bars, backs), ([], [(0, 0, ())]))

    def test_names_of_the_arguments(self):
        self.assertEqual(list(inspect.signature(barred).parameters), ["row"])


if __name__ == "__main__":
    unittest.main()
