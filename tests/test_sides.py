"""Point 14, and point 2 for rows beside one another, cut, mirrored, opposite."""

import copy
import inspect
import itertools
import unittest

from barsplit import sides
from barsplit.rows import one_kind, ways_of
from barsplit.sides import beside, cut, mirrored, opposite
from tests.helpers import (
    FORTY, PRIMES, Refusing, all_kinds, all_loads, is_row, plainly_led, rooms_of, some_row,
    some_rows_of_rooms, some_widths)


def two_of_each_kind(p, most=6):
    for ways in all_kinds(most):
        many = len(ways) + 1
        yield (some_row("one", p, ways, some_widths(f"one {ways}", many, 2)),
               some_row("other", p, ways, some_widths(f"other {ways}", many, 2)))


def leadings(row):
    """For each arrow its beginning, its end and its table's rows, in any order."""
    return sorted(rooms_of(k, way) + table for k, (way, table) in enumerate(row[2]))


class TestBeside(Refusing, unittest.TestCase):
    def test_the_widths_are_added(self):
        for p in PRIMES:
            for one, other in two_of_each_kind(p):
                told = beside(one, other)
                self.assertTrue(is_row(told), (one, other))
                self.assertTrue(one_kind(told, one))
                self.assertEqual(told[1], tuple(x + y for x, y in zip(one[1], other[1])))

    def test_each_number_stands_where_it_is_due(self):
        for p in PRIMES:
            for one, other in two_of_each_kind(p):
                told = beside(one, other)
                for k, (way, (high, wide, lines)) in enumerate(told[2]):
                    first, second = one[2][k][1], other[2][k][1]
                    for i, j in itertools.product(range(high), range(wide)):
                        asked = 0
                        if i < first[0] and j < first[1]:
                            asked = first[2][i][j]
                        if i >= first[0] and j >= first[1]:
                            asked = second[2][i - first[0]][j - first[1]]
                        self.assertEqual(lines[i][j], asked)

    def test_each_leads_its_own_numbers(self):
        for p in (2, 3):
            for one, other in two_of_each_kind(p, 3):
                told = beside(one, other)
                for k, (way, table) in enumerate(told[2]):
                    begin, _ = rooms_of(k, way)
                    for v, w in itertools.product(all_loads(p, one[1][begin]), all_loads(p, other[1][begin])):
                        asked = plainly_led(p, one[2][k][1], v) + plainly_led(p, other[2][k][1], w)
                        self.assertEqual(plainly_led(p, table, v + w), asked)

    def test_known_rows(self):
        one = (5, (1, 2), (("r", (2, 1, ((1,), (2,)))),))
        other = (5, (2, 1), (("r", (1, 2, ((3, 4),))),))
        self.assertEqual(beside(one, other), (5, (3, 3), (("r", (3, 3, ((1, 0, 0), (2, 0, 0), (0, 3, 4)))),)))
        self.assertEqual(beside(other, one), (5, (3, 3), (("r", (3, 3, ((3, 4, 0), (0, 0, 1), (0, 0, 2)))),)))
        empty = (5, (0, 0), (("r", (0, 0, ())),))
        self.assertEqual(beside(one, empty), one)
        self.assertEqual(beside(empty, one), one)
        self.assertEqual(beside((5, (0, 1), (("r", (1, 0, ((),))),)), (5, (1, 0), (("r", (0, 1, ())),))),
                         (5, (1, 1), (("r", (1, 1, ((0,),))),)))
        self.assertEqual(beside((7, (3,), ()), (7, (4,), ())), (7, (7,), ()))

    def test_thirty_is_the_most(self):
        self.assertEqual(beside((2, (15,), ()), (2, (15,), ())), (2, (30,), ()))
        self.assertEqual(beside((2, (30,), ()), (2, (0,), ())), (2, (30,), ()))
        self.refused("TooMany", {}, beside, (2, (15,), ()), (2, (16,), ()))
        self.refused("TooMany", {}, beside, (2, (30,), ()), (2, (1,), ()))
        self.refused("TooMany", {}, beside, (2, (30,), ()), (2, (30,), ()))
        for p in PRIMES:
            for ways in all_kinds():
                many = len(ways) + 1
                full = some_row("full", p, ways, (0,) * (many - 1) + (30,))
                more = some_row("more", p, ways, (1,) + (0,) * (many - 1))
                none = some_row("none", p, ways, (0,) * many)
                self.assertEqual(beside(full, none), full)
                self.assertEqual(beside(none, full), full)
                self.refused("TooMany", {}, beside, full, more)
                self.refused("TooMany", {}, beside, more, full)

    def test_unlike(self):
        kinds = list(itertools.product(PRIMES, all_kinds(3)))
        for (p, ways), (q, others) in itertools.permutations(kinds, 2):
            one = some_row("one", p, ways, some_widths("one", len(ways) + 1))
            other = some_row("other", q, others, some_widths("other", len(others) + 1))
            self.refused("Unlike", {}, beside, one, other)

    def test_unlike_ahead_of_too_many(self):
        self.refused("Unlike", {}, beside, (2, (30,), ()), (3, (30,), ()))
        long = some_row("long", 2, "r", (30, 0))
        self.refused("Unlike", {}, beside, (2, (30,), ()), long)
        self.refused("Unlike", {}, beside, long, some_row("left", 2, "l", (30, 0)))


class TestCut(Refusing, unittest.TestCase):
    def test_each_stretch_of_each_kind(self):
        for p in PRIMES:
            for row in some_rows_of_rooms(p):
                many = len(row[1])
                for i in range(many):
                    for j in range(i, many):
                        told = cut(row, i, j)
                        self.assertTrue(is_row(told))
                        self.assertEqual(told[0], p)
                        self.assertEqual(told[1], tuple(row[1][k] for k in range(i, j + 1)))
                        self.assertEqual(told[2], tuple(row[2][k] for k in range(i, j)))

    def test_all_rooms_are_the_row(self):
        for row in some_rows_of_rooms(5):
            self.assertEqual(cut(row, 0, len(row[1]) - 1), row)

    def test_known_cuts(self):
        row = (5, (2, 3, 0), (("r", (3, 2, ((1, 0), (0, 4), (0, 0)))), ("l", (3, 0, ((), (), ())))))
        self.assertEqual(cut(row, 0, 1), (5, (2, 3), (("r", (3, 2, ((1, 0), (0, 4), (0, 0)))),)))
        self.assertEqual(cut(row, 1, 2), (5, (3, 0), (("l", (3, 0, ((), (), ()))),)))
        self.assertEqual(cut(row, 2, 2), (5, (0,), ()))

    def test_no_room(self):
        for many in range(1, 7):
            row = some_row("no room", 3, "lrlrl"[:many - 1], (1,) * many)
            rooms = range(many)
            for i, j in itertools.product(list(range(-7, 9)) + [FORTY, -FORTY], repeat=2):
                if i not in rooms:
                    self.refused("NoRoom", {"room": i}, cut, row, i, j)
                elif j not in rooms or j < i:
                    self.refused("NoRoom", {"room": j}, cut, row, i, j)
                else:
                    self.assertEqual(len(cut(row, i, j)[1]), j - i + 1)

    def test_which_room_is_told(self):
        row = some_row("which", 7, "rl", (1, 1, 1))
        self.refused("NoRoom", {"room": 3}, cut, row, 3, 4)
        self.refused("NoRoom", {"room": -1}, cut, row, -1, 5)
        self.refused("NoRoom", {"room": -1}, cut, row, -1, -1)
        self.refused("NoRoom", {"room": 3}, cut, row, 2, 3)
        self.refused("NoRoom", {"room": 1}, cut, row, 2, 1)
        self.refused("NoRoom", {"room": -1}, cut, row, 2, -1)
        self.refused("NoRoom", {"room": 4}, cut, row, 4, 1)

    def test_truths_are_no_rooms(self):
        row = some_row("truths", 7, "rl", (1, 1, 1))
        self.refused("NoRoom", {"room": False}, cut, row, False, 2)
        self.refused("NoRoom", {"room": True}, cut, row, 0, True)


class TestMirrored(unittest.TestCase):
    def test_rooms_and_arrows_in_the_other_order(self):
        for p in PRIMES:
            for row in some_rows_of_rooms(p):
                told = mirrored(row)
                self.assertTrue(is_row(told), row)
                self.assertEqual(told[0], p)
                last = len(row[1]) - 1
                self.assertEqual(told[1], tuple(row[1][last - k] for k in range(last + 1)))
                self.assertEqual(
                    ways_of(told), "".join({"r": "l", "l": "r"}[way] for way in ways_of(row)[::-1]))
                asked = sorted((last - begin, last - end, *table) for begin, end, *table in leadings(row))
                self.assertEqual(leadings(told), asked)

    def test_twice_is_the_row(self):
        for p in PRIMES:
            for row in some_rows_of_rooms(p):
                self.assertEqual(mirrored(mirrored(row)), row)

    def test_known_rows(self):
        row = (5, (2, 3, 0), (("r", (3, 2, ((1, 0), (0, 4), (0, 0)))), ("l", (3, 0, ((), (), ())))))
        self.assertEqual(mirrored(row), (
            5, (0, 3, 2), (("r", (3, 0, ((), (), ()))), ("l", (3, 2, ((1, 0), (0, 4), (0, 0)))))))
        self.assertEqual(mirrored((2, (4,), ())), (2, (4,), ()))


class TestOpposite(unittest.TestCase):
    def test_each_arrow_the_other_way_its_table_turned_over(self):
        for p in PRIMES:
            for row in some_rows_of_rooms(p):
                told = opposite(row)
                self.assertTrue(is_row(told), row)
                self.assertEqual(told[:2], row[:2])
                self.assertEqual(ways_of(told), "".join({"r": "l", "l": "r"}[way] for way in ways_of(row)))
                for (_, mine), (_, its) in zip(told[2], row[2]):
                    for i, j in itertools.product(range(its[0]), range(its[1])):
                        self.assertEqual(mine[2][j][i], its[2][i][j])

    def test_twice_is_the_row(self):
        for p in PRIMES:
            for row in some_rows_of_rooms(p):
                self.assertEqual(opposite(opposite(row)), row)

    def test_known_rows(self):
        row = (5, (2, 3, 0), (("r", (3, 2, ((1, 0), (0, 4), (0, 0)))), ("l", (3, 0, ((), (), ())))))
        self.assertEqual(opposite(row), (
            5, (2, 3, 0), (("l", (2, 3, ((1, 0, 0), (0, 4, 0)))), ("r", (0, 3, ())))))
        self.assertEqual(opposite((2, (4,), ())), (2, (4,), ()))


class TestHanding(unittest.TestCase):
    def test_what_is_handed_in_stays_and_is_answered_the_same(self):
        for p in PRIMES:
            for one, other in two_of_each_kind(p, 4):
                kept = copy.deepcopy((one, other))
                last = len(one[1]) - 1
                for ask, handed in ((beside, (one, other)), (cut, (one, last, last)),
                                    (mirrored, (one,)), (opposite, (other,))):
                    first = ask(*handed)
                    self.assertEqual((one, other), kept)
                    self.assertEqual(ask(*copy.deepcopy(handed)), first)

    def test_names_of_the_arguments(self):
        asked = {
            "beside": ["one", "other"], "cut": ["row", "i", "j"], "mirrored": ["row"], "opposite": ["row"],
        }
        for name, arguments in asked.items():
            self.assertEqual(list(inspect.signature(getattr(sides, name)).parameters), arguments)


if __name__ == "__main__":
    unittest.main()
