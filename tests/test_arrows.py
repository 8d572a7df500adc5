"""Point 15, and point 2 for spaces that are carried along arrows."""

import copy
import inspect
import itertools
import unittest

from barsplit import arrows
from barsplit.arrows import Arrow, Left, Right, arrow_at, carried
from tests.helpers import (
    PRIMES, all_bases, all_kinds, all_loads, all_tables, is_base, plainly_led, rooms_of, some_row,
    some_rows_of_rooms, some_table, some_widths, span, units)

SIZES = tuple(itertools.product(range(3), repeat=2))


def some_tables(p, high, wide):
    """Drawn tables, the nought table and one of ones alone."""
    for seed in range(4):
        yield some_table(seed, p, high, wide)
    yield (high, wide, ((0,) * wide,) * high)
    yield (high, wide, ((1,) * wide,) * high)


def led_to(p, table, space):
    """All loads to which the table leads loads of the space, one by one."""
    return {plainly_led(p, table, load) for load in space}


def led_from(p, table, space):
    """All loads that the table leads to loads of the space, one by one."""
    return {load for load in all_loads(p, table[1]) if plainly_led(p, table, load) in space}


def space_carried(row, space, i, j):
    """A space of room i, as the set of its loads, carried to room j arrow by arrow."""
    p = row[0]
    while i != j:
        k, there = (i, i + 1) if i < j else (i - 1, i - 1)
        way, table = row[2][k]
        begin, _ = rooms_of(k, way)
        space = led_to(p, table, space) if begin == i else led_from(p, table, space)
        i = there
    return space


class TestOneArrow(unittest.TestCase):
    def looked_at(self, p, table):
        """All spaces of both rooms of an arrow of this table, each way, forth and back."""
        high, wide, _ = table
        for base in all_bases(p, wide):
            asked = led_to(p, table, span(p, wide, base))
            for told in (Right(p, table).forth(list(base)), Left(p, table).back(list(base))):
                self.assertTrue(is_base(p, high, told), (p, table, base, told))
                self.assertEqual(span(p, high, told), asked, (p, table, base))
        for base in all_bases(p, high):
            asked = led_from(p, table, span(p, high, base))
            for told in (Right(p, table).back(list(base)), Left(p, table).forth(list(base))):
                self.assertTrue(is_base(p, wide, told), (p, table, base, told))
                self.assertEqual(span(p, wide, told), asked, (p, table, base))

    def test_each_space_by_each_small_table(self):
        for p, sizes in ((2, SIZES), (3, ((0, 1), (1, 0), (1, 1), (1, 2), (2, 1)))):
            for high, wide in sizes:
                for table in all_tables(p, high, wide):
                    self.looked_at(p, table)

    def test_each_space_by_some_tables_of_each_prime(self):
        for p in PRIMES:
            for high, wide in SIZES:
                for table in some_tables(p, high, wide):
                    self.looked_at(p, table)

    def test_wider_tables(self):
        for p in (2, 3):
            for high, wide in ((3, 3), (3, 2), (2, 3), (0, 3), (3, 0), (1, 3), (3, 1)):
                for table in some_tables(p, high, wide):
                    self.looked_at(p, table)

    def test_noughts_alone_and_all_loads(self):
        for p in PRIMES:
            for high, wide in SIZES:
                for table in some_tables(p, high, wide):
                    right, left = Right(p, table), Left(p, table)
                    self.assertEqual(right.forth([]), [])
                    self.assertEqual(left.back([]), [])
                    kernel = {load for load in all_loads(p, wide) if not any(plainly_led(p, table, load))}
                    for told in (right.back([]), left.forth([])):
                        self.assertEqual(span(p, wide, told), kernel)
                    for told in (right.back(units(high)), left.forth(units(high))):
                        self.assertEqual(told, units(wide))
                    image = {plainly_led(p, table, load) for load in all_loads(p, wide)}
                    for told in (right.forth(units(wide)), left.back(units(wide))):
                        self.assertEqual(span(p, high, told), image)

    def test_known_spaces(self):
        table = (2, 3, ((1, 0, 2), (0, 0, 0)))
        self.assertEqual(Right(5, table).forth([(1, 0, 0), (0, 1, 0)]), [(1, 0)])
        self.assertEqual(Right(5, table).forth([(1, 0, 2)]), [])
        self.assertEqual(Right(5, table).forth([(0, 1, 3)]), [(1, 0)])
        self.assertEqual(Right(5, table).back([]), [(1, 0, 2), (0, 1, 0)])
        self.assertEqual(Right(5, table).back([(0, 1)]), [(1, 0, 2), (0, 1, 0)])
        self.assertEqual(Right(5, table).back([(1, 0)]), [(1, 0, 0), (0, 1, 0), (0, 0, 1)])
        self.assertEqual(Left(5, table).forth([(1, 3)]), [(1, 0, 2), (0, 1, 0)])
        self.assertEqual(Left(5, table).forth([(1, 0)]), [(1, 0, 0), (0, 1, 0), (0, 0, 1)])
        self.assertEqual(Left(5, table).back([(0, 1, 3)]), [(1, 0)])
        self.assertEqual(Left(5, table).back([(0, 1, 0)]), [])

    def test_wide_rooms(self):
        for p in PRIMES:
            table = (15, 15, tuple(tuple(int(i == j + 1) for j in range(15)) for i in range(15)))
            self.assertEqual(Right(p, table).forth(units(15)), units(15)[1:])
            self.assertEqual(Right(p, table).back([]), units(15)[14:])
            self.assertEqual(Left(p, table).forth(units(15)[:1]), units(15)[14:])
            self.assertEqual(Left(p, table).back(units(15)[3:9]), units(15)[4:10])


class TestClasses(unittest.TestCase):
    def test_both_stand_under_arrow_alone(self):
        self.assertEqual(Right.__bases__, (Arrow,))
        self.assertEqual(Left.__bases__, (Arrow,))

    def test_the_arrow_of_a_row(self):
        for p in PRIMES:
            for row in some_rows_of_rooms(p):
                for k, (way, table) in enumerate(row[2]):
                    told = arrow_at(row, k)
                    made = {"r": Right, "l": Left}[way]
                    self.assertIs(type(told), made)
                    asked = made(p, table)
                    for base in ([], units(row[1][k])):
                        self.assertEqual(told.forth(base), asked.forth(base))
                    for base in ([], units(row[1][k + 1])):
                        self.assertEqual(told.back(base), asked.back(base))


class TestCarried(unittest.TestCase):
    def looked_at(self, row):
        """Each space of each room, carried to each room."""
        p, widths, _ = row
        for i, wide in enumerate(widths):
            for base in all_bases(p, wide):
                space = span(p, wide, base)
                for j, there in enumerate(widths):
                    told = carried(row, list(base), i, j)
                    self.assertTrue(is_base(p, there, told), (row, base, i, j, told))
                    self.assertEqual(span(p, there, told), space_carried(row, space, i, j), (row, base, i, j))

    def test_rows_of_each_kind(self):
        for p, most in ((2, 2), (3, 2), (5, 1), (7, 1)):
            for ways in all_kinds():
                self.looked_at(some_row("carried", p, ways, some_widths(ways, len(ways) + 1, most)))

    def test_wider_rows(self):
        for p, most in ((2, 3), (5, 2), (7, 2)):
            for ways in all_kinds(4):
                self.looked_at(some_row("wider", p, ways, some_widths(f"wider {ways}", len(ways) + 1, most)))

    def test_to_the_same_room_it_stays(self):
        for p in PRIMES:
            for row in some_rows_of_rooms(p):
                for i, wide in enumerate(row[1]):
                    for base in ([], units(wide), units(wide)[1:]):
                        self.assertEqual(carried(row, base, i, i), base)

    def test_known_rows(self):
        row = (5, (1, 2, 1), (("r", (2, 1, ((1,), (2,)))), ("l", (2, 1, ((2,), (4,))))))
        self.assertEqual(carried(row, [(1,)], 0, 1), [(1, 2)])
        self.assertEqual(carried(row, [(1,)], 0, 2), [(1,)])
        self.assertEqual(carried(row, [], 0, 2), [])
        self.assertEqual(carried(row, [(1,)], 2, 0), [(1,)])
        self.assertEqual(carried(row, [(1, 0)], 1, 0), [])
        self.assertEqual(carried(row, [(1, 2)], 1, 2), [(1,)])
        row = (5, (1, 0, 1), (("r", (0, 1, ())), ("r", (1, 0, ((),)))))
        self.assertEqual(carried(row, [(1,)], 0, 2), [])
        self.assertEqual(carried(row, [], 2, 0), [(1,)])
        self.assertEqual(carried((5, (2,), ()), [(1, 3)], 0, 0), [(1, 3)])


class TestHanding(unittest.TestCase):
    def test_what_is_handed_in_stays_and_may_be_spoilt_later(self):
        table = some_table("stays", 5, 2, 2)
        for arrow in (Right(5, table), Left(5, table)):
            for ask in (arrow.forth, arrow.back):
                for base in all_bases(5, 2):
                    kept = list(base)
                    told = ask(base)
                    self.assertEqual(base, kept)
                    asked = list(told)
                    base.append("spoilt")
                    self.assertEqual(told, asked)
                    told.append("spoilt")
                    self.assertEqual(base, kept + ["spoilt"])
                    self.assertEqual(ask(kept), asked)

    def test_carried_lists_are_new_ones(self):
        for p in PRIMES:
            for row in some_rows_of_rooms(p, 3):
                kept_row = copy.deepcopy(row)
                for i, j in itertools.product(range(len(row[1])), repeat=2):
                    base = units(row[1][i])
                    told = carried(row, base, i, j)
                    asked = list(told)
                    self.assertEqual((row, base), (kept_row, units(row[1][i])))
                    told.append("spoilt")
                    self.assertEqual(base, units(row[1][i]))
                    self.assertEqual(carried(row, base, i, j), asked)
                    again = carried(copy.deepcopy(row), base, i, j)
                    base.clear()
                    self.assertEqual(again, asked)

    def test_names_of_the_arguments(self):
        for made in (Arrow, Right, Left):
            self.assertEqual(list(inspect.signature(made).parameters), ["p", "table"])
        for made in (Right, Left):
            for name in ("forth", "back"):
                self.assertEqual(list(inspect.signature(getattr(made, name)).parameters), ["self", "base"])
        self.assertEqual(list(inspect.signature(arrows.arrow_at).parameters), ["row", "k"])
        self.assertEqual(list(inspect.signature(arrows.carried).parameters), ["row", "base", "i", "j"])


if __name__ == "__main__":
    unittest.main()
