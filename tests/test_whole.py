"""Point 3 sentence by sentence, and point 2, over the whole program."""

import copy
import importlib
import unittest

from barsplit.about import bars_about, turned_about
from barsplit.alike import alike
from barsplit.barring import barred
from barsplit.bars import bar_row
from barsplit.links import numbers
from barsplit.looks import shows_bars
from barsplit.rounds import turning_order, ways_about, widths_about, widths_round
from barsplit.rows import in_turns
from barsplit.texts import row_read, row_text
from barsplit.upon import count_upon, fallen, laid_upon, plain_sum
from barsplit.ways import count_ways, ways_base
from tests.helpers import (
    PRIMES, REFUSALS, all_kinds, in_some_turns, is_way, plainly_bar_row, plainly_product, small_pairs, some_joins,
    some_rows_of_rooms, stretches, turned_bars, turning_rooms, units_table, ways_by_bars, ways_in, wide_pairs)

# The names that the interface tells, by their files.
INTERFACE = {
    "errors": ("SplitError",) + REFUSALS,
    "tables": ("inverse", "table_of", "led", "product", "added", "turned_over", "same_table", "nought_table"),
    "spaces": ("base_of", "kernel", "image", "rank", "solved", "back_of"),
    "rows": ("row_of", "ways_of", "one_kind", "in_turns"),
    "texts": ("row_text", "row_read"),
    "sides": ("beside", "cut", "mirrored", "opposite"),
    "arrows": ("Arrow", "Right", "Left", "arrow_at", "carried"),
    "links": ("link", "kept", "numbers"),
    "bars": ("bar_row",),
    "barring": ("barred",),
    "looks": ("shows_bars",),
    "ways": ("ways_base", "bar_ways", "count_ways"),
    "alike": ("alike",),
    "upon": ("laid_upon", "fallen", "plain_sum", "count_upon"),
    "about": ("turned_about", "bars_about"),
    "rounds": ("widths_about", "ways_about", "turning_order", "widths_round", "all_stretches"),
    "desk": ("Desk",),
}


def pairs_of_each_kind(p):
    """Drawn rows of one kind, and each with itself in drawn turns."""
    for under, upper in wide_pairs(p):
        yield under, upper
        yield under, in_some_turns("pair", under)


class TestThePromise(unittest.TestCase):
    def test_turns_by_which_every_table_becomes_that_of_its_bars(self):
        for p in PRIMES:
            for row in some_rows_of_rooms(p):
                bars, turns, backs = barred(row)
                for width, turn, back in zip(row[1], turns, backs):
                    self.assertEqual(plainly_product(p, turn, back), units_table(width))
                    self.assertEqual(plainly_product(p, back, turn), units_table(width))
                self.assertEqual(in_turns(row, turns, backs), plainly_bar_row(p, ways_in(row), bars))
                self.assertTrue(shows_bars(row, (bars, turns, backs)))

    def test_the_number_of_bars_is_the_same_by_whatever_turns(self):
        for p in PRIMES:
            for ways in all_kinds():
                bars, row = turned_bars(f"whole {ways}", p, ways, 13)
                asked = {bar: bars.count(bar) for bar in stretches(len(ways) + 1)}
                for one in (row, in_some_turns("again", row), bar_row(p, ways, bars)):
                    self.assertEqual(numbers(one), asked)
                    self.assertEqual(barred(one)[0], sorted(bars))

    def test_alike_just_where_these_numbers_are_the_same(self):
        for p in PRIMES:
            for one, other in pairs_of_each_kind(p):
                told = alike(one, other)
                if numbers(one) == numbers(other):
                    self.assertEqual(told[0], "alike")
                    self.assertTrue(is_way(one, other, told[1]) and is_way(other, one, told[2]))
                    for width, there, back in zip(one[1], told[1], told[2]):
                        self.assertEqual(plainly_product(p, back, there), units_table(width))
                        self.assertEqual(plainly_product(p, there, back), units_table(width))
                else:
                    self.assertEqual(told[0], "apart")
                    goal = bar_row(p, ways_in(one), [told[4]])
                    self.assertNotEqual(count_ways(one, goal), count_ways(other, goal))

    def test_how_many_ways_is_told_by_the_bars_alone_and_found_by_solving(self):
        for p in PRIMES:
            for one, other in pairs_of_each_kind(p):
                told = count_ways(one, other)
                self.assertEqual(told, ways_by_bars(ways_in(one), barred(one)[0], barred(other)[0]))
                if sum(x * y for x, y in zip(one[1], other[1])) <= 60:
                    self.assertEqual(told, len(ways_base(one, other)))

    def test_that_number_less_the_ways_to_lay_upon_is_a_plain_sum(self):
        for p in PRIMES:
            for one, other in pairs_of_each_kind(p):
                self.assertEqual(count_ways(one, other) - count_upon(one, other), plain_sum(one, other))

    def test_laid_upon_without_falling_apart_there_are_other_bars(self):
        for p in PRIMES:
            for under, upper in small_pairs(p, 1):
                joins = some_joins("whole", under, upper)
                bars = barred(laid_upon(under, upper, joins))[0]
                same = bars == sorted(barred(under)[0] + barred(upper)[0])
                self.assertEqual(fallen(under, upper, joins)[0], "parted" if same else "stuck")

    def test_turned_about_and_turned_back(self):
        for p in PRIMES:
            for ways in all_kinds():
                bars, row = turned_bars(f"about {ways}", p, ways, 13)
                for k in turning_rooms(ways):
                    there = turned_about(row, k)
                    over = bars_about(ways, k, bars)
                    self.assertEqual(barred(there)[0], over)
                    self.assertEqual(len(over), len(bars) - bars.count((k, k)))
                    back = turned_about(there, k)
                    self.assertEqual(barred(back)[0], sorted(bar for bar in bars if bar != (k, k)))
                    self.assertEqual(barred(back)[0], bars_about(ways_about(ways, k), k, over))

    def test_widths_come_round(self):
        for ways in all_kinds():
            many = len(ways) + 1
            for bar in stretches(many):
                widths = tuple(int(bar[0] <= room <= bar[1]) for room in range(many))
                now = widths
                for _ in range(many + 1):
                    now = widths_round(ways, now)
                self.assertEqual(now, widths)

    def test_a_bar_goes_over_as_its_widths_do_until_it_is_lost(self):
        for p in PRIMES:
            for ways in all_kinds():
                for bar in stretches(len(ways) + 1):
                    row = bar_row(p, ways, [bar])
                    for k in turning_order(ways):
                        now = ways_in(row)
                        asked = widths_about(now, k, row[1])
                        row = turned_about(row, k)
                        if min(asked) < 0:
                            self.assertEqual(sum(row[1]), 0)
                            break
                        self.assertEqual(row[1], asked)


class TestTheInterface(unittest.TestCase):
    def test_each_name_is_made_in_its_file(self):
        for module, names in INTERFACE.items():
            made = importlib.import_module(f"barsplit.{module}")
            for name in names:
                self.assertEqual(getattr(made, name).__module__, f"barsplit.{module}")


class TestHanding(unittest.TestCase):
    def test_what_was_told_may_be_handed_in_again(self):
        for p in PRIMES:
            for under, upper in small_pairs(p, 1):
                row = laid_upon(under, upper, some_joins("again", under, upper))
                self.assertEqual(row_read(row_text(row)), row)
                paper = barred(row)
                self.assertTrue(shows_bars(row, paper))
                split = bar_row(p, ways_in(row), paper[0])
                told = alike(row, split)
                self.assertEqual(told[0], "alike")
                self.assertTrue(shows_bars(row, (paper[0], told[1], told[2])))

    def test_nothing_is_kept_from_question_to_question(self):
        for p in PRIMES:
            for under, upper in small_pairs(p, 1):
                told = self.asked(under, upper)
                before = copy.deepcopy(told)
                self.spoil(told)
                self.assertEqual(self.asked(under, upper), before)
                self.assertEqual(self.asked(*copy.deepcopy((under, upper))), before)

    def asked(self, under, upper):
        joins = some_joins("asked", under, upper)
        ways = ways_in(under)
        turned = [bars_about(ways, k, barred(under)[0]) for k in turning_rooms(ways)]
        return [barred(under), numbers(upper), ways_base(upper, under), alike(under, upper),
                fallen(under, upper, joins), turned, turning_order(ways)]

    def spoil(self, told):
        """Empties each list and dict, also those within."""
        if isinstance(told, (list, tuple)):
            for part in told:
                self.spoil(part)
        if isinstance(told, (list, dict)):
            told.clear()


if __name__ == "__main__":
    unittest.main()
