"""Points 26 and 28, the refusals of 27, and point 2 for rows upon rows."""

import copy
import inspect
import itertools
import unittest

from barsplit import upon
from barsplit.sides import beside
from barsplit.upon import count_upon, fallen, laid_upon, plain_sum
from barsplit.ways import count_ways, ways_base
from tests.helpers import (
    PRIMES, Refusing, all_kinds, all_lists_of_tables, all_loads, bar_ways_one_by_one, in_some_turns, is_row,
    join_sizes, nought_joins, numbers_of, plainly_bar_row, plainly_led, rooms_of, slanted, small_pairs, some_joins,
    some_row, some_table, some_widths, stretches, turned_bars, ways_by_bars, ways_in, wide_pairs)


class TestLaidUpon(unittest.TestCase):
    def test_widths_and_kind(self):
        for p in PRIMES:
            for under, upper in wide_pairs(p):
                told = laid_upon(under, upper, some_joins("kind", under, upper))
                self.assertTrue(is_row(told), (under, upper))
                self.assertEqual((told[0], ways_in(told)), (p, ways_in(under)))
                self.assertEqual(told[1], tuple(x + y for x, y in zip(under[1], upper[1])))

    def test_each_number_stands_where_it_is_due(self):
        for p in PRIMES:
            for under, upper in wide_pairs(p):
                joins = some_joins("numbers", under, upper)
                told = laid_upon(under, upper, joins)
                for k, (_, (high, wide, lines)) in enumerate(told[2]):
                    low, up, join = under[2][k][1], upper[2][k][1], joins[k]
                    self.assertEqual((high, wide), (low[0] + up[0], low[1] + up[1]))
                    for i, j in itertools.product(range(high), range(wide)):
                        if i < low[0]:
                            asked = low[2][i][j] if j < low[1] else join[2][i][j - low[1]]
                        else:
                            asked = 0 if j < low[1] else up[2][i - low[0]][j - low[1]]
                        self.assertEqual(lines[i][j], asked, (under, upper, k, i, j))

    def test_each_load_is_led_as_told(self):
        for p in (2, 3):
            for ways in all_kinds(4):
                under, upper = (some_row(side, p, ways, some_widths(f"led {side} {ways}", len(ways) + 1, 2))
                                for side in ("under", "upper"))
                joins = some_joins("led", under, upper)
                told = laid_upon(under, upper, joins)
                for k, way in enumerate(ways):
                    begin, _ = rooms_of(k, way)
                    for low, up in itertools.product(
                            all_loads(p, under[1][begin]), all_loads(p, upper[1][begin])):
                        down = zip(plainly_led(p, under[2][k][1], low), plainly_led(p, joins[k], up))
                        asked = tuple((x + y) % p for x, y in down) + plainly_led(p, upper[2][k][1], up)
                        self.assertEqual(plainly_led(p, told[2][k][1], low + up), asked)

    def test_known_rows(self):
        under = (5, (1, 2), (("r", (2, 1, ((1,), (2,)))),))
        upper = (5, (2, 1), (("r", (1, 2, ((3, 4),))),))
        self.assertEqual(laid_upon(under, upper, [(2, 2, ((1, 2), (3, 4)))]), (
            5, (3, 3), (("r", (3, 3, ((1, 1, 2), (2, 3, 4), (0, 3, 4)))),)))
        self.assertEqual(laid_upon(upper, under, [(1, 1, ((2,),))]), (
            5, (3, 3), (("r", (3, 3, ((3, 4, 2), (0, 0, 1), (0, 0, 2)))),)))
        under = (7, (2, 1), (("l", (2, 1, ((1,), (2,)))),))
        upper = (7, (1, 2), (("l", (1, 2, ((3, 4),))),))
        self.assertEqual(laid_upon(under, upper, [(2, 2, ((1, 2), (5, 6)))]), (
            7, (3, 3), (("l", (3, 3, ((1, 1, 2), (2, 5, 6), (0, 3, 4)))),)))

    def test_a_bar_cut_in_two_is_joined_again(self):
        for p in PRIMES:
            for ways in all_kinds()[1:]:
                last = len(ways)
                for mid in range(last):
                    begin, end = ((0, mid), (mid + 1, last)) if ways[mid] == "r" else ((mid + 1, last), (0, mid))
                    under, upper = plainly_bar_row(p, ways, [end]), plainly_bar_row(p, ways, [begin])
                    joins = nought_joins(under, upper)
                    self.assertEqual(joins[mid], (1, 1, ((0,),)))
                    joins[mid] = (1, 1, ((1,),))
                    self.assertEqual(laid_upon(under, upper, joins), plainly_bar_row(p, ways, [(0, last)]))

    def test_joins_of_no_rows_or_no_columns(self):
        under, upper = (3, (0, 0), (("r", (0, 0, ())),)), (3, (1, 2), (("r", (2, 1, ((1,), (2,)))),))
        self.assertEqual(laid_upon(under, upper, [(0, 1, ())]), upper)
        self.assertEqual(laid_upon(upper, under, [(2, 0, ((), ()))]), upper)
        under, upper = (3, (0, 2), (("r", (2, 0, ((), ()))),)), (3, (1, 0), (("r", (0, 1, ())),))
        self.assertEqual(laid_upon(under, upper, [(2, 1, ((1,), (2,)))]), (3, (1, 2), (("r", (2, 1, ((1,), (2,)))),)))
        self.assertEqual(laid_upon(upper, under, [(0, 0, ())]), (3, (1, 2), (("r", (2, 1, ((0,), (0,)))),)))
        under, upper = (3, (0, 2), (("l", (0, 2, ())),)), (3, (1, 0), (("l", (1, 0, ((),))),))
        self.assertEqual(laid_upon(under, upper, [(0, 0, ())]), (3, (1, 2), (("l", (1, 2, ((0, 0),))),)))
        self.assertEqual(laid_upon(upper, under, [(1, 2, ((1, 2),))]), (3, (1, 2), (("l", (1, 2, ((1, 2),))),)))

    def test_rows_of_one_room(self):
        for p in PRIMES:
            for low, up in itertools.product((0, 1, 3, 15), repeat=2):
                self.assertEqual(laid_upon((p, (low,), ()), (p, (up,), ()), []), (p, (low + up,), ()))

    def test_joins_of_noughts_lay_beside(self):
        for p in PRIMES:
            for under, upper in wide_pairs(p):
                self.assertEqual(laid_upon(under, upper, nought_joins(under, upper)), beside(under, upper))


class TestRefusals(Refusing, unittest.TestCase):
    def both_refuse(self, name, told, under, upper, joins):
        for ask in (laid_upon, fallen):
            self.refused(name, told, ask, under, upper, joins)

    def rows_of_each_kind(self):
        for p, ways in itertools.product(PRIMES, all_kinds()):
            widths = [some_widths(f"{side} refused {ways}", len(ways) + 1, 2) for side in ("under", "upper")]
            yield some_row("under", p, ways, widths[0]), some_row("upper", p, ways, widths[1])

    def test_joins_too_few(self):
        for under, upper in self.rows_of_each_kind():
            joins = some_joins("few", under, upper)
            for many in range(len(joins)):
                self.both_refuse("NoArrow", {"at": many}, under, upper, joins[:many])

    def test_joins_too_many(self):
        for under, upper in self.rows_of_each_kind():
            joins = some_joins("many", under, upper)
            for more in ([(1, 1, ((0,),))], [(0, 0, ())], [(2, 0, ((), ()))] * 3, joins[:1] * 9 or [(0, 0, ())] * 9):
                self.both_refuse("NoArrow", {"at": 5}, under, upper, joins + more)

    def test_joins_of_another_high_or_wide_at_each_arrow(self):
        for under, upper in self.rows_of_each_kind():
            p, joins = under[0], some_joins("size", under, upper)
            for k, (high, wide, _) in enumerate(joins):
                others = {(high + 1, wide), (high, wide + 1), (high + 1, wide + 1), (wide, high), (0, 0),
                          (max(high - 1, 0), wide), (high, max(wide - 1, 0))} - {(high, wide)}
                for size in sorted(others):
                    wrong = joins[:k] + [some_table("wrong", p, *size)] + joins[k + 1:]
                    self.both_refuse("NoArrow", {"at": k}, under, upper, wrong)

    def test_the_first_wrong_arrow_is_told(self):
        for under, upper in self.rows_of_each_kind():
            p, joins = under[0], some_joins("first", under, upper)
            wrong = [some_table("wrong", p, high + 1, wide) for high, wide, _ in joins]
            for k in range(len(joins)):
                # All are wrong from there on; it is wrong, and those behind are wanting, or there are too many.
                self.both_refuse("NoArrow", {"at": k}, under, upper, joins[:k] + wrong[k:])
                self.both_refuse("NoArrow", {"at": k}, under, upper, joins[:k] + wrong[k:k + 1])
                alone = joins[:k] + wrong[k:k + 1] + joins[k + 1:]
                self.both_refuse("NoArrow", {"at": k}, under, upper, alone + joins)

    def test_what_is_no_table_is_no_join(self):
        for under, upper in self.rows_of_each_kind():
            joins = some_joins("none", under, upper)
            for k in range(len(joins)):
                for wrong in (None, 1, "", (), [], ((0,),)):
                    self.both_refuse("NoArrow", {"at": k}, under, upper, joins[:k] + [wrong] + joins[k + 1:])

    def test_thirty_together(self):
        for p in PRIMES:
            for ways in all_kinds():
                many = len(ways) + 1
                for low, up in ((30, 0), (0, 30), (15, 15), (29, 1)):
                    under = some_row("under", p, ways, (0,) * (many - 1) + (low,))
                    upper = some_row("upper", p, ways, (up,) + (0,) * (many - 1))
                    joins = some_joins("thirty", under, upper)
                    self.assertEqual(sum(laid_upon(under, upper, joins)[1]), 30)
                    self.assertIn(fallen(under, upper, joins)[0], ("parted", "stuck"))
                    more = some_row("more", p, ways, (0,) * (many - 1) + (low + 1,))
                    self.both_refuse("TooMany", {}, more, upper, some_joins("more", more, upper))
                    more = some_row("more", p, ways, (up + 1,) + (0,) * (many - 1))
                    self.both_refuse("TooMany", {}, under, more, some_joins("more", under, more))

    def test_no_arrow_ahead_of_too_many(self):
        for p in PRIMES:
            for ways in all_kinds():
                widths = (31 // (len(ways) + 1),) * (len(ways) + 1)
                under, upper = some_row("under", p, ways, widths), some_row("upper", p, ways, widths)
                joins = some_joins("ahead", under, upper)
                self.both_refuse("TooMany", {}, under, upper, joins)
                self.both_refuse("NoArrow", {"at": 5}, under, upper, joins + joins[:1] + [(0, 0, ())])
                for k in range(len(ways)):
                    self.both_refuse("NoArrow", {"at": k}, under, upper, joins[:k])
                    self.both_refuse("NoArrow", {"at": k}, under, upper, joins[:k] + [(0, 0, ())] + joins[k + 1:])

    def test_unlike_rows_ahead_of_all(self):
        kinds = list(itertools.product((2, 3, 7), all_kinds(4)))
        for (p, first), (q, second) in itertools.permutations(kinds, 2):
            for widths in ((1, 2, 0, 1), (30,) * 4):
                under, upper = (some_row("unlike", prime, ways, widths[:len(ways) + 1])
                                for prime, ways in ((p, first), (q, second)))
                self.both_refuse("Unlike", {}, under, upper, [])
                if p != q and len(first) == len(second):
                    self.both_refuse("Unlike", {}, under, upper, [(1, 1, ((0,),))] * len(first))
                self.refused("Unlike", {}, plain_sum, upper, under)
                self.refused("Unlike", {}, count_upon, upper, under)


class TestPlainSum(unittest.TestCase):
    def test_rooms_less_arrows(self):
        below = 0
        for p in PRIMES:
            for under, upper in wide_pairs(p):
                told = plain_sum(upper, under)
                self.assertIs(type(told), int)
                rooms = sum(x * y for x, y in zip(upper[1], under[1]))
                arrows = 0
                for k, way in enumerate(ways_in(under)):
                    begin, end = rooms_of(k, way)
                    arrows += upper[1][begin] * under[1][end]
                self.assertEqual(told, rooms - arrows)
                below += told < 0
        self.assertGreater(below, 20)

    def test_known_sums(self):
        one, other = some_row("one", 2, "rl", (1, 2, 3)), some_row("other", 2, "rl", (5, 7, 11))
        self.assertEqual(plain_sum(one, other), 5 + 14 + 33 - 7 - 21)
        self.assertEqual(plain_sum(other, one), 5 + 14 + 33 - 10 - 22)
        self.assertEqual(plain_sum((3, (4,), ()), (3, (5,), ())), 20)

    def test_ways_less_the_ways_to_lay_upon(self):
        for p in PRIMES:
            for under, upper in wide_pairs(p):
                self.assertEqual(count_ways(upper, under) - count_upon(upper, under), plain_sum(upper, under))

    def test_ways_found_by_solving(self):
        for p in PRIMES:
            for under, upper in small_pairs(p, 2):
                self.assertEqual(len(ways_base(upper, under)) - count_upon(upper, under), plain_sum(upper, under))


class TestCountUpon(unittest.TestCase):
    def test_small_rows_gone_through_by_all_joins(self):
        some = 0
        for p in PRIMES:
            for under, upper in small_pairs(p, 2):
                slants = all_lists_of_tables(p, list(zip(under[1], upper[1])))
                made = {tuple(slanted(under, upper, tables)) for tables in slants}
                told = count_upon(upper, under)
                self.assertIs(type(told), int)
                self.assertGreaterEqual(told, 0)
                self.assertEqual(len(made) * p ** told, p ** numbers_of(join_sizes(under, upper)), (under, upper))
                some += told > 0
        self.assertGreater(some, 100)

    def test_as_many_joins_are_told_parted(self):
        for p in (2, 3):
            for under, upper in small_pairs(p, 1):
                kinds = [fallen(under, upper, joins)[0]
                         for joins in all_lists_of_tables(p, join_sizes(under, upper))]
                self.assertEqual(kinds.count("parted") * p ** count_upon(upper, under), len(kinds))

    def test_never_below_nought_and_where_nought_all_fall_apart(self):
        nought = 0
        for p in PRIMES:
            for under, upper in wide_pairs(p):
                told = count_upon(upper, under)
                self.assertGreaterEqual(told, 0)
                for seed in range(2):
                    if fallen(under, upper, some_joins(f"nought {seed}", under, upper))[0] == "stuck":
                        self.assertGreater(told, 0)
                nought += told == 0
        self.assertGreater(nought, 100)

    def test_all_pairs_of_bars(self):
        for ways in all_kinds(4):
            for one, other in itertools.product(stretches(len(ways) + 1), repeat=2):
                upper, under = plainly_bar_row(2, ways, [one]), plainly_bar_row(2, ways, [other])
                slants = all_lists_of_tables(2, list(zip(under[1], upper[1])))
                made = {tuple(slanted(under, upper, tables)) for tables in slants}
                told = count_upon(upper, under)
                self.assertEqual(len(made) * 2 ** told, 2 ** numbers_of(join_sizes(under, upper)), (ways, one, other))
                self.assertEqual(bar_ways_one_by_one(ways, one, other) - told, plain_sum(upper, under))

    def test_the_sum_over_all_bars(self):
        for p in PRIMES:
            for ways in all_kinds():
                ones, upper = turned_bars(f"ones {ways}", p, ways, 30)
                others, under = turned_bars(f"others {ways}", p, ways, 30)
                told = count_upon(upper, under)
                self.assertEqual(told, ways_by_bars(ways, ones, others) - plain_sum(upper, under))
                self.assertEqual(count_upon(in_some_turns("upper", upper), in_some_turns("under", under)), told)

    def test_known_bars(self):
        for p in PRIMES:
            found = {(ways, one, other) for ways in ("r", "l")
                     for one, other in itertools.product(stretches(2), repeat=2)
                     if count_upon(plainly_bar_row(p, ways, [one]), plainly_bar_row(p, ways, [other]))}
            self.assertEqual(found, {("r", (0, 0), (1, 1)), ("l", (1, 1), (0, 0))})
            twice, thrice = plainly_bar_row(p, "r", [(0, 0)] * 2), plainly_bar_row(p, "r", [(1, 1)] * 3)
            self.assertEqual((count_upon(twice, thrice), count_upon(thrice, twice)), (6, 0))
            self.assertEqual(count_upon((p, (30,), ()), (p, (30,), ())), 0)


class TestHanding(unittest.TestCase):
    def test_what_is_handed_in_stays_and_may_be_changed_afterwards(self):
        for p in PRIMES:
            for under, upper in small_pairs(p, 1):
                joins = some_joins("handing", under, upper)
                before = copy.deepcopy((under, upper, joins))
                laid, told = laid_upon(under, upper, joins), fallen(under, upper, joins)
                asked = copy.deepcopy((laid, told))
                self.assertEqual((under, upper, joins), before)
                joins.append("spoilt")
                joins.reverse()
                self.assertEqual((laid, told), asked)
                self.assertEqual((laid_upon(*before), fallen(*before)), asked)
                for ask in (plain_sum, count_upon):
                    self.assertEqual(ask(upper, under), ask(*copy.deepcopy((upper, under))))
                self.assertEqual((under, upper), before[:2])

    def test_what_was_told_may_be_spoilt(self):
        for p in PRIMES:
            for under, upper in small_pairs(p, 1):
                for joins in (some_joins("spoilt", under, upper), nought_joins(under, upper)):
                    told = fallen(under, upper, joins)
                    asked = copy.deepcopy(told)
                    told[1].append("spoilt")
                    told[1].reverse()
                    self.assertEqual(fallen(under, upper, joins), asked)

    def test_what_was_told_may_be_handed_in_again(self):
        one, other = plainly_bar_row(5, "rl", [(0, 0), (1, 1)]), plainly_bar_row(5, "rl", [(0, 1), (1, 2)])
        laid = laid_upon(one, other, some_joins("again", one, other))
        again = laid_upon(laid, laid, some_joins("again", laid, laid))
        self.assertTrue(is_row(again))
        self.assertEqual(again[1], tuple(2 * (x + y) for x, y in zip(one[1], other[1])))

    def test_names_of_the_arguments(self):
        asked = {
            "laid_upon": ["under", "upper", "joins"], "fallen": ["under", "upper", "joins"],
            "plain_sum": ["upper", "under"], "count_upon": ["upper", "under"],
        }
        for name, arguments in asked.items():
            self.assertEqual(list(inspect.signature(getattr(upon, name)).parameters), arguments)


if __name__ == "__main__":
    unittest.main()
