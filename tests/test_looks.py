"""Point 21, and point 2 for papers that are looked at."""

import copy
import inspect
import itertools
import unittest

from barsplit.barring import barred
from barsplit.looks import shows_bars
from tests.helpers import (
    FORTY, PRIMES, all_kinds, all_tables, plainly_bar_row, plainly_in_turns, plainly_product, some_row,
    some_rows_of_rooms, some_turn, some_turns, stretches, turned_bars, units_table)


def drawn(seed, p, ways, together):
    """A row in drawn turns and a paper of it, all without the program."""
    bars, row = turned_bars(seed, p, ways, together)
    turns, backs = some_turns(seed, plainly_bar_row(p, ways, bars))
    return row, (sorted(bars), backs, turns)


def papers(p, most=6, together=9):
    """A row of each kind with its paper."""
    for ways in all_kinds(most):
        yield drawn(f"paper {ways}", p, ways, together)


def undo(p, turn, back):
    """Whether two tables, multiplied either way round, give the same table."""
    same = units_table(turn[0])
    return plainly_product(p, turn, back) == same == plainly_product(p, back, turn)


def is_paper(row, paper):
    """Point 20 word by word."""
    p, widths, arrows = row
    bars, turns, backs = paper
    if not len(turns) == len(backs) == len(widths):
        return False
    for wide, turn, back in zip(widths, turns, backs):
        if turn[:2] != (wide, wide) or back[:2] != (wide, wide) or not undo(p, turn, back):
            return False
    if bars != sorted(bars) or not set(bars) <= set(stretches(len(widths))):
        return False
    ways = "".join(way for way, _ in arrows)
    return plainly_in_turns(row, turns, backs) == plainly_bar_row(p, ways, bars)


def replaced(things, at, thing):
    return things[:at] + [thing] + things[at + 1:]


def figure_changed(p, table, i, j):
    rows = [list(line) for line in table[2]]
    rows[i][j] = (rows[i][j] + 1) % p
    return (table[0], table[1], tuple(map(tuple, rows)))


def multiplied(p, much, tables):
    """The tables with each number taken times a rest."""
    return [(high, wide, tuple(tuple(much * x % p for x in line) for line in rows)) for high, wide, rows in tables]


def resized(table, high, wide):
    """The table cut or, where it is too small, filled up, so that a same table stays one where it can."""
    return (high, wide, tuple(
        tuple(table[2][i][j] if i < table[0] and j < table[1] else int(i == j) for j in range(wide))
        for i in range(high)))


class Looking(unittest.TestCase):
    def right(self, row, paper):
        self.assertIs(shows_bars(row, paper), True, (row, paper))

    def wrong(self, row, paper):
        self.assertIs(shows_bars(row, paper), False, (row, paper))


class TestRightPapers(Looking):
    def test_papers_that_are_told(self):
        for p in PRIMES:
            for row in some_rows_of_rooms(p):
                self.right(row, barred(row))

    def test_papers_of_rows_in_drawn_turns(self):
        for p in PRIMES:
            for together in (0, 1, 8, 30):
                for row, paper in papers(p, together=together):
                    self.right(row, paper)
                    self.right(row, barred(row))

    def test_other_turns_than_those_that_are_told(self):
        others = 0
        for p in PRIMES:
            for row, (bars, turns, backs) in papers(p):
                told = barred(row)
                others += told[1] != turns
                # All numbers of all rooms taken times one rest keep the row of the bars.
                for much in range(1, p):
                    less = pow(much, -1, p)
                    self.right(row, (bars, multiplied(p, much, turns), multiplied(p, less, backs)))
        self.assertGreater(others, 100)

    def test_alike_bars_in_another_order(self):
        swap = (2, 2, ((0, 1), (1, 0)))
        for p in PRIMES:
            row = plainly_bar_row(p, "rl", [(0, 2), (0, 2)])
            self.right(row, ([(0, 2), (0, 2)], [swap] * 3, [swap] * 3))
            self.wrong(row, ([(0, 2), (0, 2)], [swap, units_table(2), swap], [swap, units_table(2), swap]))

    def test_a_bar_added_to_another_where_it_may_be(self):
        # Over an arrow to the right, the bar that ends may get more of the other one than the other of it.
        row = (3, (2, 1), (("r", (1, 2, ((0, 1),))),))
        bars = [(0, 0), (0, 1)]
        one = units_table(1)
        self.right(row, (bars, [units_table(2), one], [units_table(2), one]))
        self.right(row, (bars, [(2, 2, ((1, 1), (0, 1))), one], [(2, 2, ((1, 2), (0, 1))), one]))
        self.wrong(row, (bars, [(2, 2, ((1, 0), (1, 1))), one], [(2, 2, ((1, 0), (2, 1))), one]))

    def test_rows_without_numbers(self):
        for p in PRIMES:
            for ways in all_kinds():
                many = len(ways) + 1
                row = some_row("none", p, ways, (0,) * many)
                empty = [(0, 0, ())] * many
                self.right(row, ([], empty, empty))
                self.wrong(row, ([(0, 0)], empty, empty))
                self.wrong(row, ([(many - 1, many - 1)], empty, empty))
                self.wrong(row, ([], empty[1:], empty))
                self.wrong(row, ([], empty, empty + [(0, 0, ())]))
                self.wrong(row, ([], [], []))
                for at in range(many):
                    for other in ((1, 1, ((1,),)), (1, 0, ((),)), (0, 1, ())):
                        self.wrong(row, ([], replaced(empty, at, other), empty))
                        self.wrong(row, ([], empty, replaced(empty, at, other)))
                    self.wrong(row, ([], replaced(empty, at, units_table(1)), replaced(empty, at, units_table(1))))
                    self.wrong(row, ([], replaced(empty, at, (0, 1, ())), replaced(empty, at, (1, 0, ((),)))))

    def test_more_than_thirty_together(self):
        for ways, bars in (("", [(0, 0)] * 31), ("r", [(0, 1)] * 16), ("rl", [(0, 2), (1, 1)] * 9),
                           ("rlrlrl", [(0, 6), (2, 3), (6, 6)])):
            for p in PRIMES:
                row = plainly_bar_row(p, ways, bars)
                turns, backs = some_turns("beyond", row)
                turned = plainly_in_turns(row, turns, backs)
                self.right(turned, (sorted(bars), backs, turns))
                self.wrong(turned, (sorted(bars)[1:], backs, turns))


class TestSpoiltBars(Looking):
    def test_not_sorted(self):
        spoilt = 0
        for p in PRIMES:
            for row, (bars, turns, backs) in papers(p):
                for at in range(len(bars) - 1):
                    if bars[at] != bars[at + 1]:
                        swapped = bars[:at] + [bars[at + 1], bars[at]] + bars[at + 2:]
                        self.wrong(row, (swapped, turns, backs))
                        self.wrong(row, (bars[::-1], turns, backs))
                        spoilt += 1
        self.assertGreater(spoilt, 100)

    def test_not_sorted_though_the_turns_are_of_that_order(self):
        for p in PRIMES:
            row = plainly_bar_row(p, "", [(0, 0)] * 2)
            self.right(row, ([(0, 0)] * 2, [units_table(2)], [units_table(2)]))
            swap = (2, 2, ((0, 1), (1, 0)))
            row = plainly_bar_row(p, "l", [(0, 1), (0, 0)])
            for turns in ([units_table(2), units_table(1)], [swap, units_table(1)]):
                self.wrong(row, ([(0, 1), (0, 0)], turns, turns))

    def test_one_too_few(self):
        for p in PRIMES:
            for row, (bars, turns, backs) in papers(p):
                for at in range(len(bars)):
                    self.wrong(row, (bars[:at] + bars[at + 1:], turns, backs))
                self.wrong(row, ([], turns, backs))

    def test_one_too_many(self):
        for p in PRIMES:
            for row, (bars, turns, backs) in papers(p):
                for stretch in stretches(len(row[1])):
                    self.wrong(row, (sorted(bars + [stretch]), turns, backs))

    def test_many_too_many(self):
        row, (bars, turns, backs) = drawn("many", 5, "rlrlr", 30)
        self.right(row, (bars, turns, backs))
        self.wrong(row, (sorted(bars + [(0, 5)] * 31), turns, backs))
        self.wrong(row, ([(0, 5)] * 60, turns, backs))

    def test_another_stretch(self):
        for p in PRIMES:
            for row, (bars, turns, backs) in papers(p, 4, 6):
                for at, stretch in itertools.product(range(len(bars)), stretches(len(row[1]))):
                    if stretch != bars[at]:
                        self.wrong(row, (sorted(replaced(bars, at, stretch)), turns, backs))

    def test_stretches_of_other_rooms_in_the_place_of_one(self):
        for p in PRIMES:
            for row, (bars, turns, backs) in papers(p):
                many = len(row[1])
                for at, (i, j) in enumerate(bars):
                    for other in ((i - many, j), (-1, j), (i, many), (i, FORTY), (-FORTY, j), (j + 1, i), (-1, many)):
                        self.wrong(row, (sorted(replaced(bars, at, other)), turns, backs))

    def test_stretches_of_no_room_more(self):
        # They would change nothing of the row of the bars.
        for p in PRIMES:
            for row, (bars, turns, backs) in papers(p):
                many = len(row[1])
                for other in ((many, many), (many, many + 1), (-1, -1), (-2, -1), (1, 0), (many - 1, -1), (0, -1),
                              (many, 0), (FORTY, FORTY), (-FORTY, -FORTY), (FORTY, -FORTY)):
                    self.wrong(row, (sorted(bars + [other]), turns, backs))

    def test_beginning_below_or_ending_beyond_the_rooms(self):
        # A row made of these would be the same row.
        for p in PRIMES:
            one = units_table(1)
            for ways in all_kinds():
                many = len(ways) + 1
                row = plainly_bar_row(p, ways, [(0, many - 1)])
                self.right(row, ([(0, many - 1)], [one] * many, [one] * many))
                for wrong in ((-1, many - 1), (0, many), (-1, many), (-FORTY, FORTY)):
                    self.wrong(row, ([wrong], [one] * many, [one] * many))

    def test_lists_are_no_stretches(self):
        for p in PRIMES:
            for row, (bars, turns, backs) in papers(p):
                self.wrong(row, (list(map(list, bars)), turns, backs))
                self.wrong(row, ([list(bars[0])] + bars[1:], turns, backs))

    def test_bars_of_the_same_widths(self):
        for p in PRIMES:
            one, two = units_table(1), units_table(2)
            row = plainly_bar_row(p, "rl", [(0, 2), (1, 1)])
            self.right(row, ([(0, 2), (1, 1)], [one, two, one], [one, two, one]))
            self.wrong(row, ([(0, 1), (1, 2)], [one, two, one], [one, two, one]))
            self.wrong(row, ([(0, 0), (1, 1), (1, 1), (2, 2)], [one, two, one], [one, two, one]))


class TestSpoiltTurns(Looking):
    def test_each_figure_of_turns_and_backs(self):
        for p in PRIMES:
            for row, (bars, turns, backs) in papers(p, 6, 7):
                for at, wide in enumerate(row[1]):
                    for i, j in itertools.product(range(wide), repeat=2):
                        self.wrong(row, (bars, replaced(turns, at, figure_changed(p, turns[at], i, j)), backs))
                        self.wrong(row, (bars, turns, replaced(backs, at, figure_changed(p, backs[at], i, j))))

    def test_another_size(self):
        for p in PRIMES:
            for row, (bars, turns, backs) in papers(p):
                for at, wide in enumerate(row[1]):
                    for high, long in itertools.product((wide - 1, wide, wide + 1, wide + 2), repeat=2):
                        if min(high, long) >= 0 and (high, long) != (wide, wide):
                            turn, back = resized(turns[at], high, long), resized(backs[at], long, high)
                            self.wrong(row, (bars, replaced(turns, at, turn), backs))
                            self.wrong(row, (bars, turns, replaced(backs, at, back)))
                            self.wrong(row, (bars, replaced(turns, at, turn), replaced(backs, at, back)))

    def test_another_size_by_which_the_same_row_would_come(self):
        for p in PRIMES:
            for ways in all_kinds():
                many = len(ways) + 1
                row = plainly_bar_row(p, ways, [(0, many - 1)])
                ones = [units_table(1)] * many
                for high, long in ((2, 2), (1, 2), (2, 1)):
                    turn, back = resized(units_table(1), high, long), resized(units_table(1), long, high)
                    self.wrong(row, ([(0, many - 1)], [turn] * many, [back] * many))
                    for at in range(many):
                        self.wrong(row, ([(0, many - 1)], replaced(ones, at, turn), replaced(ones, at, back)))

    def test_turns_that_lead_to_another_row(self):
        spoilt = 0
        for p in PRIMES:
            for row, (bars, turns, backs) in papers(p):
                for at, wide in enumerate(row[1]):
                    turn, back = some_turn(f"other {at}", p, wide)
                    paper = (bars, replaced(turns, at, turn), replaced(backs, at, back))
                    self.assertIs(shows_bars(row, paper), is_paper(row, paper), (row, paper))
                    spoilt += not is_paper(row, paper)
        self.assertGreater(spoilt, 300)

    def test_the_same_tables_as_turns(self):
        spoilt = 0
        for p in PRIMES:
            for row, (bars, _, _) in papers(p):
                same = [units_table(wide) for wide in row[1]]
                ways = "".join(way for way, _ in row[2])
                self.assertIs(shows_bars(row, (bars, same, same)), row == plainly_bar_row(p, ways, bars))
                spoilt += row != plainly_bar_row(p, ways, bars)
        self.assertGreater(spoilt, 100)

    def test_turns_and_backs_exchanged(self):
        for p in PRIMES:
            for row, (bars, turns, backs) in papers(p, together=14):
                self.assertIs(shows_bars(row, (bars, backs, turns)), is_paper(row, (bars, backs, turns)))

    def test_lists_too_short_or_too_long(self):
        for p in PRIMES:
            for row, (bars, turns, backs) in papers(p):
                for turned in (turns, turns[:-1], turns[1:], turns + turns[-1:], turns + [(0, 0, ())], []):
                    for undone in (backs, backs[:-1], backs[1:], backs + backs[-1:], backs + [(0, 0, ())], []):
                        if len(turned) != len(row[1]) or len(undone) != len(row[1]):
                            self.wrong(row, (bars, turned, undone))
                self.wrong(row, ([], [], []))

    def test_papers_of_other_rows(self):
        for p in PRIMES:
            told = list(papers(p))
            for (row, paper), (_, other) in itertools.product(told[::3], told[::5]):
                self.assertIs(shows_bars(row, other), is_paper(row, other), (row, other))

    def test_a_nought_table_turns_nothing(self):
        for p in PRIMES:
            self.wrong((p, (1,), ()), ([(0, 0)], [(1, 1, ((0,),))], [(1, 1, ((0,),))]))
            self.wrong((p, (1,), ()), ([(0, 0)], [(1, 1, ((1,),))], [(1, 1, ((0,),))]))
            self.wrong((p, (2,), ()), ([(0, 0)] * 2, [(2, 2, ((1, 0), (0, 0)))], [(2, 2, ((1, 0), (0, 0)))]))


class TestAllPapers(Looking):
    def test_small_rows(self):
        for p, widths in ((2, (1,)), (2, (2,)), (2, (1, 1)), (3, (1, 1)), (2, (1, 2)), (2, (2, 1)), (2, (0, 2)),
                          (2, (1, 1, 1)), (3, (1, 0, 1))):
            many = len(widths)
            lists = [list(bars) for size in range(4) for bars in itertools.product(stretches(many), repeat=size)
                     if sum(j - i + 1 for i, j in bars) in (sum(widths), sum(widths) + 1)]
            tables = [list(all_tables(p, wide, wide)) for wide in widths]
            pairs = [[(turn, back) for turn in those for back in those] for those in tables]
            # Of the tables of two numbers, those that do not undo one another are taken here and there alone.
            few = [[pair for at, pair in enumerate(those) if at % 7 == 0 or undo(p, *pair)] for those in pairs]
            for ways in itertools.product("rl", repeat=many - 1):
                row = some_row(f"small {widths}", p, ways, widths)
                found = 0
                for bars, turned in itertools.product(lists, itertools.product(*few)):
                    paper = (bars, [turn for turn, _ in turned], [back for _, back in turned])
                    asked = is_paper(row, paper)
                    self.assertIs(shows_bars(row, paper), asked, (row, paper))
                    found += asked
                self.assertGreater(found, 0)


class TestHanding(Looking):
    def test_what_is_handed_in_stays(self):
        for p in PRIMES:
            for row, paper in papers(p):
                spoilt = (paper[0][::-1] + [(9, 0)], paper[1], paper[2])
                for handed in (paper, spoilt):
                    before = copy.deepcopy((row, handed))
                    told = shows_bars(row, handed)
                    self.assertEqual((row, handed), before)
                    self.assertIs(shows_bars(row, handed), told)
                    self.assertIs(shows_bars(*before), told)

    def test_a_paper_that_is_changed_is_looked_at_anew(self):
        for p in PRIMES:
            row, paper = drawn("anew", p, "rlr", 11)
            self.right(row, paper)
            for part in paper:
                last = part.pop()
                self.wrong(row, paper)
                part.append(last)
                self.right(row, paper)

    def test_names_of_the_arguments(self):
        self.assertEqual(list(inspect.signature(shows_bars).parameters), ["row", "paper"])


if __name__ == "__main__":
    unittest.main()
