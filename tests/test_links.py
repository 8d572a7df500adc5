"""Points 16, 17 and 18, and point 2 for links, what is kept, and numbers."""

import collections
import copy
import inspect
import itertools
import unittest

from barsplit import links
from barsplit.links import kept, link, numbers
from tests.helpers import (
    PRIMES, all_kinds, all_loads, in_some_turns, is_base, plainly_led, plainly_product, rooms_of, some_row,
    some_rows_of_rooms, some_widths, span, stretches, turned_bars, units)

# Small enough that all loads of all rooms can be gone through.
MOST_LOADS = {2: 8, 3: 5, 5: 3, 7: 3}


def small_rows(p):
    """Two rows of each kind, with rooms emptied until all their loads are few."""
    for ways in all_kinds():
        for seed in range(2):
            widths = list(some_widths(f"small {seed} {ways}", len(ways) + 1, 2))
            while sum(widths) > MOST_LOADS[p]:
                widths[widths.index(max(widths))] -= 1
            yield some_row(f"small {seed}", p, ways, widths)


def arrows_hold(row, i, loads):
    """Whether each arrow leads the load of its beginning to that of its end, given the loads from room i on."""
    for k in range(i, i + len(loads) - 1):
        way, table = row[2][k]
        begin, end = rooms_of(k, way)
        if plainly_led(row[0], table, loads[begin - i]) != loads[end - i]:
            return False
    return True


def link_one_by_one(row, i, j):
    """Point 16: all (v, w), found by going through all loads of all rooms from i to j."""
    rooms = [all_loads(row[0], row[1][room]) for room in range(i, j + 1)]
    return {loads[0] + loads[-1] for loads in itertools.product(*rooms) if arrows_hold(row, i, loads)}


def size_of(p, space):
    """Of how many numbers a space has so many loads."""
    size, many = 0, 1
    while many < len(space):
        size, many = size + 1, many * p
    assert many == len(space)
    return size


def kept_one_by_one(row, i, j):
    """Point 17 word by word."""
    space = link_one_by_one(row, i, j)
    first = row[1][i]
    ends = {load for load in space if not any(load[first:])}
    begins = {load for load in space if not any(load[:first])}
    return size_of(row[0], space) - size_of(row[0], ends) - size_of(row[0], begins)


def number_by(much, i, j):
    """Point 18 word by word; much tells what is kept where there are rooms."""
    return much[i, j] - much.get((i - 1, j), 0) - much.get((i, j + 1), 0) + much.get((i - 1, j + 1), 0)


def counted(many, bars):
    """How often each stretch is among the bars."""
    often = collections.Counter(bars)
    return {stretch: often[stretch] for stretch in stretches(many)}


class TestLink(unittest.TestCase):
    def test_all_loads_gone_through(self):
        for p in PRIMES:
            for row in small_rows(p):
                for i, j in stretches(len(row[1])):
                    told = link(row, i, j)
                    long = row[1][i] + row[1][j]
                    self.assertTrue(is_base(p, long, told), (row, i, j, told))
                    self.assertEqual(span(p, long, told), link_one_by_one(row, i, j), (row, i, j))

    def test_a_room_with_itself_has_all_loads_told_twice(self):
        for p in PRIMES:
            for row in some_rows_of_rooms(p):
                for i, wide in enumerate(row[1]):
                    self.assertEqual(link(row, i, i), [unit + unit for unit in units(wide)])

    def test_neighbours(self):
        for p in PRIMES:
            for row in some_rows_of_rooms(p):
                for k, (way, table) in enumerate(row[2]):
                    told = link(row, k, k + 1)
                    first, second = row[1][k], row[1][k + 1]
                    self.assertTrue(is_base(p, first + second, told))
                    self.assertEqual(len(told), table[1])
                    for load in told:
                        pair = load[:first], load[first:]
                        begin, end = pair if way == "r" else reversed(pair)
                        self.assertEqual(plainly_led(p, table, begin), end)

    def test_known_links(self):
        row = (5, (1, 2, 1), (("r", (2, 1, ((1,), (2,)))), ("l", (2, 1, ((2,), (4,))))))
        self.assertEqual(link(row, 0, 1), [(1, 1, 2)])
        self.assertEqual(link(row, 1, 2), [(1, 2, 3)])
        self.assertEqual(link(row, 0, 2), [(1, 3)])
        row = (5, (1, 2, 1), (("r", (2, 1, ((1,), (2,)))), ("l", (2, 1, ((2,), (3,))))))
        self.assertEqual(link(row, 0, 2), [])
        row = (5, (1, 2, 1), (("l", (1, 2, ((1, 2),))), ("r", (1, 2, ((2, 4),)))))
        self.assertEqual(link(row, 0, 2), [(1, 2)])
        row = (5, (1, 2, 1), (("l", (1, 2, ((1, 2),))), ("r", (1, 2, ((2, 3),)))))
        self.assertEqual(link(row, 0, 2), [(1, 0), (0, 1)])

    def test_over_a_room_without_numbers(self):
        # By each way over such a room, v and w hang on nothing or must be led to noughts.
        asked = {"rr": [(1, 0)], "rl": [(1, 0), (0, 1)], "lr": [], "ll": [(0, 1)]}
        for p in PRIMES:
            for ways, base in asked.items():
                self.assertEqual(link(some_row("empty", p, ways, (1, 0, 1)), 0, 2), base)
        self.assertEqual(link((7, (0,), ()), 0, 0), [])


class TestKept(unittest.TestCase):
    def test_all_loads_gone_through(self):
        for p in PRIMES:
            for row in small_rows(p):
                for i, j in stretches(len(row[1])):
                    told = kept(row, i, j)
                    self.assertIs(type(told), int)
                    self.assertEqual(told, kept_one_by_one(row, i, j), (row, i, j))

    def test_from_a_room_to_itself_it_is_the_width(self):
        for p in PRIMES:
            for row in some_rows_of_rooms(p):
                self.assertEqual([kept(row, i, i) for i in range(len(row[1]))], list(row[1]))

    def test_along_one_way_it_is_the_rank_of_the_tables_together(self):
        for p in PRIMES:
            for many in range(2, 7):
                row = some_row("straight", p, "r" * (many - 1), some_widths(f"straight {p}", many, 4))
                other = some_row("straight", p, "l" * (many - 1), some_widths(f"straight {p}", many, 4))
                for i, j in stretches(many):
                    if i < j:
                        there, back = row[2][i][1], other[2][i][1]
                        for k in range(i + 1, j):
                            there = plainly_product(p, row[2][k][1], there)
                            back = plainly_product(p, back, other[2][k][1])
                        for made, table in ((row, there), (other, back)):
                            image = span(p, table[0], zip(*table[2]) if table[1] else [])
                            self.assertEqual(kept(made, i, j), size_of(p, image), (made, i, j))

    def test_as_many_as_bars_go_through(self):
        for p in PRIMES:
            for ways in all_kinds():
                bars, row = turned_bars(f"kept {ways}", p, ways, 12)
                for i, j in stretches(len(ways) + 1):
                    asked = sum(1 for begin, end in bars if begin <= i and j <= end)
                    self.assertEqual(kept(row, i, j), asked, (row, i, j))

    def test_known_rows(self):
        row = (5, (1, 2, 1), (("r", (2, 1, ((1,), (2,)))), ("l", (2, 1, ((2,), (4,))))))
        self.assertEqual([kept(row, i, j) for i, j in stretches(3)], [1, 1, 1, 2, 1, 1])
        row = (5, (1, 2, 1), (("r", (2, 1, ((1,), (2,)))), ("l", (2, 1, ((2,), (3,))))))
        self.assertEqual([kept(row, i, j) for i, j in stretches(3)], [1, 1, 0, 2, 1, 1])
        row = (5, (1, 0, 1), (("r", (0, 1, ())), ("l", (0, 1, ()))))
        self.assertEqual([kept(row, i, j) for i, j in stretches(3)], [1, 0, 0, 0, 0, 1])


class TestNumbers(unittest.TestCase):
    def test_what_is_kept_taken_together(self):
        for p in PRIMES:
            for row in small_rows(p):
                much = {(i, j): kept_one_by_one(row, i, j) for i, j in stretches(len(row[1]))}
                self.assertEqual(numbers(row), {(i, j): number_by(much, i, j) for i, j in much})

    def test_all_stretches_are_told_and_none_is_below_nought(self):
        for p in PRIMES:
            for row in some_rows_of_rooms(p):
                told = numbers(row)
                self.assertIs(type(told), dict)
                self.assertEqual(sorted(told), stretches(len(row[1])))
                for (i, j), number in told.items():
                    self.assertIs(type(number), int)
                    self.assertGreaterEqual(number, 0)
                for room, wide in enumerate(row[1]):
                    self.assertEqual(sum(told[i, j] for i, j in told if i <= room <= j), wide)

    def test_drawn_bars_put_in_turns(self):
        for p in PRIMES:
            for ways in all_kinds():
                for together in (1, 5, 14):
                    bars, row = turned_bars(f"numbers {ways}", p, ways, together)
                    self.assertEqual(numbers(row), counted(len(ways) + 1, bars), row)

    def test_thirty_together(self):
        for p in PRIMES:
            for ways in all_kinds()[::3] + ["rlrlr", "lrlrl"]:
                bars, row = turned_bars(f"thirty {ways}", p, ways, 30)
                self.assertEqual(sum(row[1]), 30)
                self.assertEqual(numbers(row), counted(len(ways) + 1, bars), row)

    def test_the_same_by_whatever_turns(self):
        for p in PRIMES:
            for row in some_rows_of_rooms(p):
                self.assertEqual(numbers(in_some_turns("whatever", row)), numbers(row))

    def test_known_rows(self):
        self.assertEqual(numbers((5, (3,), ())), {(0, 0): 3})
        self.assertEqual(numbers((5, (0,), ())), {(0, 0): 0})
        row = (5, (2, 3, 0), (("r", (3, 2, ((1, 0), (0, 4), (0, 0)))), ("l", (3, 0, ((), (), ())))))
        self.assertEqual(numbers(row), {(0, 0): 0, (0, 1): 2, (0, 2): 0, (1, 1): 1, (1, 2): 0, (2, 2): 0})
        row = (5, (1, 2, 1), (("r", (2, 1, ((1,), (2,)))), ("l", (2, 1, ((2,), (4,))))))
        self.assertEqual(numbers(row), {(0, 0): 0, (0, 1): 0, (0, 2): 1, (1, 1): 1, (1, 2): 0, (2, 2): 0})
        row = (5, (1, 2, 1), (("r", (2, 1, ((1,), (2,)))), ("l", (2, 1, ((2,), (3,))))))
        self.assertEqual(numbers(row), {(0, 0): 0, (0, 1): 1, (0, 2): 0, (1, 1): 0, (1, 2): 1, (2, 2): 0})
        # Each two neighbours are kept, and yet nothing goes from end to end.
        row = (2, (1, 2, 1), (("r", (2, 1, ((1,), (0,)))), ("r", (1, 2, ((0, 1),)))))
        self.assertEqual(numbers(row), {(0, 0): 0, (0, 1): 1, (0, 2): 0, (1, 1): 0, (1, 2): 1, (2, 2): 0})


class TestHanding(unittest.TestCase):
    def test_what_was_told_may_be_spoilt(self):
        for p in PRIMES:
            for row in some_rows_of_rooms(p, 4):
                before = copy.deepcopy(row)
                last = len(row[1]) - 1
                base, told = link(row, 0, last), numbers(row)
                asked, known = list(base), dict(told)
                base.append("spoilt")
                told.clear()
                told["spoilt"] = 1
                self.assertEqual(row, before)
                self.assertEqual(link(copy.deepcopy(row), 0, last), asked)
                self.assertEqual(numbers(copy.deepcopy(row)), known)
                self.assertEqual(kept(row, 0, last), kept(copy.deepcopy(row), 0, last))

    def test_names_of_the_arguments(self):
        asked = {"link": ["row", "i", "j"], "kept": ["row", "i", "j"], "numbers": ["row"]}
        for name, arguments in asked.items():
            self.assertEqual(list(inspect.signature(getattr(links, name)).parameters), arguments)


if __name__ == "__main__":
    unittest.main()
