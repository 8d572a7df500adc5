"""Points 22, 23 and 24, what point 3 says of the number of ways, and point 2 for ways."""

import copy
import inspect
import itertools
import unittest

from barsplit import ways as module
from barsplit.barring import barred
from barsplit.bars import bar_row
from barsplit.sides import beside, opposite
from barsplit.ways import bar_ways, count_ways, ways_base
from tests.helpers import (
    PRIMES, Refusing, all_kinds, all_loads, bar_ways_one_by_one, in_some_turns, is_base, is_way, plainly_bar_row,
    plainly_product, some_row, some_rows_of_rooms, some_widths, span, stretches, turned_bars, units, units_table,
    ways_by_bars)

# Small enough that all lists of tables can be gone through.
MOST_NUMBERS = {2: 7, 3: 5, 5: 3, 7: 3}


def numbers_between(one, other):
    """How many numbers a way from a row to another one has."""
    return sum(wide * high for wide, high in zip(one[1], other[1]))


def as_load(tables):
    """All numbers of all tables, room by room, row by row."""
    return tuple(x for table in tables for line in table[2] for x in line)


def as_tables(one, other, load):
    """The list of tables that is written as the load."""
    numbers = iter(load)
    return [(high, wide, tuple(tuple(next(numbers) for _ in range(wide)) for _ in range(high)))
            for wide, high in zip(one[1], other[1])]


def ways_one_by_one(one, other):
    """All ways as loads, found by going through all lists of tables."""
    loads = all_loads(one[0], numbers_between(one, other))
    return {load for load in loads if is_way(one, other, as_tables(one, other, load))}


def pair_of_rows(seed, p, ways, most, numbers):
    """Two rows of one kind, with rooms emptied until their ways have no more than so many numbers."""
    many = len(ways) + 1
    ones, others = (list(some_widths(f"{side} {seed} {ways}", many, most)) for side in ("one", "other"))
    while sum(x * y for x, y in zip(ones, others)) > numbers:
        ones[ones.index(max(ones))] -= 1
        ones, others = others, ones
    return some_row(f"one {seed}", p, ways, ones), some_row(f"other {seed}", p, ways, others)


class TestWaysBase(Refusing, unittest.TestCase):
    def looked_at(self, one, other):
        """That what is told is a base of ways; told are its loads."""
        told = ways_base(one, other)
        self.assertIs(type(told), list)
        for way in told:
            self.assertTrue(is_way(one, other, way), (one, other, way))
        loads = [as_load(way) for way in told]
        self.assertTrue(is_base(one[0], numbers_between(one, other), loads), (one, other, told))
        return loads

    def test_all_lists_of_tables_gone_through(self):
        wide = 0
        for p in PRIMES:
            for ways in all_kinds():
                for seed in range(3):
                    one, other = pair_of_rows(seed, p, ways, 3, MOST_NUMBERS[p])
                    loads = self.looked_at(one, other)
                    asked = ways_one_by_one(one, other)
                    self.assertEqual(span(p, numbers_between(one, other), loads), asked, (one, other))
                    wide += len(asked) > 1
        self.assertGreater(wide, 200)

    def test_as_many_as_the_bars_tell(self):
        for p in PRIMES:
            for ways in all_kinds():
                ones, one = turned_bars(f"ones {ways}", p, ways, 9)
                others, other = turned_bars(f"others {ways}", p, ways, 7)
                if numbers_between(one, other) <= 60:
                    self.assertEqual(len(self.looked_at(one, other)), ways_by_bars(ways, ones, others))

    def test_drawn_tables_of_up_to_sixty_numbers(self):
        for p in PRIMES:
            for ways in all_kinds():
                one, other = pair_of_rows("sixty", p, ways, 7, 60)
                asked = ways_by_bars(ways, barred(one)[0], barred(other)[0])
                self.assertEqual(len(self.looked_at(one, other)), asked, (one, other))

    def test_the_way_of_same_tables_is_among_those_from_a_row_to_itself(self):
        for p in (2, 3):
            for row in some_rows_of_rooms(p):
                if numbers_between(row, row) <= 60:
                    loads = self.looked_at(row, row)
                    same = as_load([units_table(wide) for wide in row[1]])
                    self.assertTrue(is_way(row, row, [units_table(wide) for wide in row[1]]))
                    if len(loads) < 8:
                        self.assertIn(same, span(p, len(same), loads))

    def test_of_one_room_all_tables_are_ways(self):
        for p in PRIMES:
            for wide, high in itertools.product((0, 1, 2, 5, 7), repeat=2):
                one, other = (p, (wide,), ()), (p, (high,), ())
                asked = [as_tables(one, other, unit) for unit in units(wide * high)]
                self.assertEqual(ways_base(one, other), asked)

    def test_numbers_stand_room_by_room_and_row_by_row(self):
        one = (5, (2, 1), (("r", (1, 2, ((0, 0),))),))
        other = (5, (1, 2), (("r", (2, 1, ((0,), (0,)))),))
        self.assertEqual(ways_base(one, other), [
            [(1, 2, ((1, 0),)), (2, 1, ((0,), (0,)))],
            [(1, 2, ((0, 1),)), (2, 1, ((0,), (0,)))],
            [(1, 2, ((0, 0),)), (2, 1, ((1,), (0,)))],
            [(1, 2, ((0, 0),)), (2, 1, ((0,), (1,)))]])

    def test_known_ways(self):
        one, two = (5, (1, 1), (("r", (1, 1, ((1,),))),)), (5, (1, 1), (("r", (1, 1, ((2,),))),))
        self.assertEqual(ways_base(one, two), [[(1, 1, ((1,),)), (1, 1, ((2,),))]])
        self.assertEqual(ways_base(two, one), [[(1, 1, ((1,),)), (1, 1, ((3,),))]])
        left, down = (5, (1, 1), (("l", (1, 1, ((1,),))),)), (5, (1, 1), (("l", (1, 1, ((2,),))),))
        self.assertEqual(ways_base(left, down), [[(1, 1, ((1,),)), (1, 1, ((3,),))]])
        self.assertEqual(ways_base(down, left), [[(1, 1, ((1,),)), (1, 1, ((2,),))]])
        first = (5, (1, 2, 1), (("r", (2, 1, ((1,), (2,)))), ("l", (2, 1, ((2,), (4,))))))
        second = (5, (1, 2, 1), (("r", (2, 1, ((1,), (2,)))), ("l", (2, 1, ((2,), (3,))))))
        nought = (1, 1, ((0,),))
        self.assertEqual(ways_base(first, second), [
            [nought, (2, 2, ((1, 2), (0, 0))), nought], [nought, (2, 2, ((0, 0), (1, 2))), nought]])

    def test_no_way_but_that_of_noughts(self):
        for p in PRIMES:
            for ways in all_kinds():
                many = len(ways) + 1
                none = some_row("none", p, ways, (0,) * many)
                some = some_row("some", p, ways, (2,) * many)
                for one, other in ((none, none), (none, some), (some, none)):
                    self.assertEqual(ways_base(one, other), [])
            # Both have room 1, and yet no way leads over.
            self.assertEqual(ways_base(plainly_bar_row(p, "r", [(0, 1)]), plainly_bar_row(p, "r", [(1, 1)])), [])
            self.assertEqual(ways_base(plainly_bar_row(p, "l", [(1, 1)]), plainly_bar_row(p, "l", [(0, 1)])), [])
            # They are wide, but not in the same room.
            one = some_row("apart", p, "r", (30, 0))
            self.assertEqual(ways_base(one, some_row("apart", p, "r", (0, 30))), [])
            self.assertEqual(ways_base(some_row("apart", p, "r", (0, 30)), one), [])

    def test_sixty_numbers_and_sixty_one(self):
        for p in PRIMES:
            for ones, others in (((30,), (2,)), ((12,), (5,)), ((20, 0), (3, 9)), ((15, 15), (2, 2)), ((7, 4), (8, 1)),
                                 ((10, 10, 10), (2, 2, 2)), ((5,) * 6, (2,) * 6), ((6, 4, 2), (5, 5, 5))):
                for ways in ("r" * 5, "lrlrl"):
                    one, other = (some_row("sixty", p, ways[:len(ones) - 1], widths) for widths in (ones, others))
                    self.assertEqual(numbers_between(one, other), 60)
                    self.assertEqual(len(self.looked_at(one, other)), count_ways(one, other))
                    self.looked_at(other, one)
            for ones, others in (((20, 1), (3, 1)), ((7, 5), (8, 1)), ((10, 10, 1), (3, 3, 1)),
                                 ((6, 5, 0, 3), (6, 5, 9, 0)), ((5, 5, 5, 5, 1), (3, 3, 3, 3, 1))):
                for ways in ("rrrr", "lrlr"):
                    one, other = (some_row("more", p, ways[:len(ones) - 1], widths) for widths in (ones, others))
                    self.assertEqual(numbers_between(one, other), 61)
                    self.refused("TooMany", {}, ways_base, one, other)
                    self.refused("TooMany", {}, ways_base, other, one)
            for ones, others in (((30,), (3,)), ((30,), (30,)), ((15, 15), (15, 15)), ((8, 0, 0), (8, 1, 1))):
                one, other = (some_row("most", p, "rl"[:len(ones) - 1], widths) for widths in (ones, others))
                self.refused("TooMany", {}, ways_base, one, other)

    def test_unlike_rows(self):
        for one, other in unlike_pairs((1, 2)):
            self.refused("Unlike", {}, ways_base, one, other)

    def test_unlike_ahead_of_too_many(self):
        for one, other in unlike_pairs((8, 9)):
            self.refused("Unlike", {}, ways_base, one, other)
        self.refused("Unlike", {}, ways_base, (2, (30,), ()), (3, (30,), ()))


def unlike_pairs(sizes):
    """Rows that are not of one kind: of other primes, of other ways, of more rooms."""
    for p, q in itertools.product(PRIMES, repeat=2):
        for first, second in itertools.product(all_kinds(4), repeat=2):
            if (p, first) != (q, second) and (p == q or len(first) < 3):
                yield tuple(some_row("unlike", prime, ways, (sizes * 2)[:len(ways) + 1])
                            for prime, ways in ((p, first), (q, second)))


class TestBarWays(unittest.TestCase):
    def test_as_many_as_between_the_rows_of_the_bars(self):
        primes = itertools.cycle(PRIMES)
        for ways in all_kinds(5):
            for one, other in itertools.product(stretches(len(ways) + 1), repeat=2):
                # Each prime comes with each text, and short texts with each of them.
                for p in PRIMES if len(ways) < 4 else (next(primes),):
                    told = bar_ways(ways, one, other)
                    self.assertIs(type(told), int)
                    self.assertEqual(told, len(ways_base(bar_row(p, ways, [one]), bar_row(p, ways, [other]))))

    def test_all_numbers_gone_through(self):
        for ways in all_kinds():
            for one, other in itertools.product(stretches(len(ways) + 1), repeat=2):
                self.assertEqual(bar_ways(ways, one, other), bar_ways_one_by_one(ways, one, other), (ways, one, other))

    def test_the_words_of_the_point(self):
        for ways in all_kinds():
            for one, other in itertools.product(stretches(len(ways) + 1), repeat=2):
                common = set(range(one[0], one[1] + 1)) & set(range(other[0], other[1] + 1))
                asked = bool(common)
                for at in sorted(common):
                    for beside, out in ((at - 1, "l"), (at + 1, "r")):
                        goes = [bar[0] <= beside <= bar[1] for bar in (one, other)]
                        if beside not in common and goes[0] != goes[1]:
                            leads_out = ways[min(at, beside)] == out
                            asked = asked and leads_out == goes[0]
                self.assertEqual(bar_ways(ways, one, other), int(asked), (ways, one, other))

    def test_known_bars(self):
        self.assertEqual(bar_ways("", (0, 0), (0, 0)), 1)
        for ways, asked in (("r", {((0, 1), (0, 0)), ((1, 1), (0, 1))}), ("l", {((0, 1), (1, 1)), ((0, 0), (0, 1))})):
            found = {(one, other) for one, other in itertools.product(stretches(2), repeat=2)
                     if bar_ways(ways, one, other)}
            self.assertEqual(found, asked | {(bar, bar) for bar in stretches(2)})
        # Both overlap, and neither goes on where the other does.
        self.assertEqual([bar_ways(ways, (0, 1), (1, 2)) for ways in ("rr", "rl", "lr", "ll")], [0, 0, 0, 1])
        self.assertEqual([bar_ways(ways, (1, 2), (0, 1)) for ways in ("rr", "rl", "lr", "ll")], [1, 0, 0, 0])
        self.assertEqual([bar_ways(ways, (0, 2), (1, 1)) for ways in ("rr", "rl", "lr", "ll")], [0, 0, 1, 0])
        self.assertEqual([bar_ways(ways, (1, 1), (0, 2)) for ways in ("rr", "rl", "lr", "ll")], [0, 1, 0, 0])
        self.assertEqual([bar_ways(ways, (0, 0), (2, 2)) for ways in ("rr", "rl", "lr", "ll")], [0, 0, 0, 0])
        self.assertEqual([bar_ways(ways, (0, 0), (1, 2)) for ways in ("rr", "rl", "lr", "ll")], [0, 0, 0, 0])

    def test_a_bar_leads_to_itself(self):
        for ways in all_kinds():
            for bar in stretches(len(ways) + 1):
                self.assertEqual(bar_ways(ways, bar, bar), 1)


class TestCountWays(Refusing, unittest.TestCase):
    def test_as_many_as_the_base_of_the_ways(self):
        for p in PRIMES:
            for ways in all_kinds():
                for seed in range(2):
                    one, other = pair_of_rows(f"count {seed}", p, ways, 4, 60)
                    told = count_ways(one, other)
                    self.assertIs(type(told), int)
                    self.assertEqual(told, len(ways_base(one, other)), (one, other))
                    self.assertEqual(count_ways(other, one), len(ways_base(other, one)), (one, other))

    def test_as_many_as_all_lists_of_tables_gone_through(self):
        for p in PRIMES:
            for ways in all_kinds():
                one, other = pair_of_rows("one by one", p, ways, 3, MOST_NUMBERS[p])
                self.assertEqual(p ** count_ways(one, other), len(ways_one_by_one(one, other)), (one, other))

    def test_the_sum_over_all_bars(self):
        for p in PRIMES:
            for ways in all_kinds():
                for together in (1, 12, 30):
                    ones, one = turned_bars(f"ones {ways}", p, ways, together)
                    others, other = turned_bars(f"others {ways}", p, ways, together)
                    self.assertEqual(count_ways(one, other), ways_by_bars(ways, ones, others), (one, other))

    def test_the_sum_over_all_bars_of_drawn_tables(self):
        for p in PRIMES:
            for ways in all_kinds():
                one, other = pair_of_rows("wide", p, ways, 5, 150)
                told = count_ways(one, other)
                ones, others = barred(one)[0], barred(other)[0]
                self.assertEqual(told, ways_by_bars(ways, ones, others))
                self.assertEqual(told, sum(bar_ways(ways, bar, goal) for bar in ones for goal in others))

    def test_rows_too_wide_for_their_base(self):
        for p in PRIMES:
            self.assertEqual(count_ways((p, (30,), ()), (p, (30,), ())), 900)
            self.assertEqual(count_ways((p, (30,), ()), (p, (29,), ())), 870)
            self.assertEqual(count_ways((p, (31,), ()), (p, (40,), ())), 1240)
            ones, others = (some_row("too wide", p, "r", widths) for widths in ((15, 15), (14, 16)))
            self.refused("TooMany", {}, ways_base, ones, others)
            whole, single = (plainly_bar_row(p, "l", bars * 15) for bars in ([(0, 1)], [(0, 0), (1, 1)]))
            self.assertEqual((count_ways(whole, whole), count_ways(single, single)), (225, 450))
            self.assertEqual((count_ways(whole, single), count_ways(single, whole)), (225, 225))
            # Parts of wide rows that lie beside one another are counted one by one.
            one, two, other = (some_row(f"part {seed}", p, "lr", (4, 3, 5)) for seed in "abc")
            asked = len(ways_base(one, other)) + len(ways_base(two, other))
            self.assertEqual(count_ways(beside(one, two), other), asked)
            asked = len(ways_base(other, one)) + len(ways_base(other, two))
            self.assertEqual(count_ways(other, beside(one, two)), asked)

    def test_the_same_by_whatever_turns(self):
        for p in PRIMES:
            for ways in all_kinds():
                one, other = pair_of_rows("turned", p, ways, 3, 60)
                turned = in_some_turns("one", one), in_some_turns("other", other)
                self.assertEqual(count_ways(*turned), count_ways(one, other))

    def test_the_opposite_has_all_ways_the_other_way(self):
        for p in PRIMES:
            for ways in all_kinds():
                one, other = pair_of_rows("opposite", p, ways, 4, 90)
                self.assertEqual(count_ways(opposite(other), opposite(one)), count_ways(one, other))

    def test_rows_without_numbers(self):
        for p in PRIMES:
            for row in some_rows_of_rooms(p):
                none = some_row("none", p, "".join(way for way, _ in row[2]), (0,) * len(row[1]))
                self.assertEqual((count_ways(none, row), count_ways(row, none)), (0, 0))

    def test_unlike_rows(self):
        for sizes in ((1, 2), (8, 7)):
            for one, other in unlike_pairs(sizes):
                self.refused("Unlike", {}, count_ways, one, other)


class TestHanding(unittest.TestCase):
    def test_what_was_told_may_be_spoilt(self):
        for p in PRIMES:
            for ways in all_kinds(4):
                one, other = pair_of_rows("handing", p, ways, 3, 30)
                before = copy.deepcopy((one, other))
                told = ways_base(one, other)
                asked = copy.deepcopy(told)
                count = count_ways(one, other)
                for way in told:
                    way.append("spoilt")
                    way.reverse()
                told.append("spoilt")
                self.assertEqual((one, other), before)
                self.assertEqual(ways_base(one, other), asked)
                self.assertEqual(ways_base(*before), asked)
                self.assertEqual(count_ways(*before), count)

    def test_each_way_is_a_list_of_its_own(self):
        told = ways_base((5, (2,), ()), (5, (1,), ()))
        told[0].clear()
        self.assertEqual(told, [[], [(1, 2, ((0, 1),))]])

    def test_ways_are_added_and_multiplied(self):
        for p in (3, 5):
            one, other = pair_of_rows("added", p, "rlr", 3, 40)
            told = ways_base(one, other)
            self.assertGreater(len(told), 1)
            mixed = [x + 2 * y for x, y in zip(as_load(told[0]), as_load(told[1]))]
            self.assertTrue(is_way(one, other, as_tables(one, other, [x % p for x in mixed])))

    def test_ways_behind_ways_are_ways(self):
        for p in PRIMES:
            one, other = pair_of_rows("behind", p, "lrl", 3, 40)
            for there, back in itertools.product(ways_base(one, other)[:5], ways_base(other, one)[:5]):
                both = [plainly_product(p, first, second) for first, second in zip(back, there)]
                self.assertTrue(is_way(one, one, both))

    def test_names_of_the_arguments(self):
        asked = {"ways_base": ["one", "other"], "bar_ways": ["ways", "one", "other"], "count_ways": ["one", "other"]}
        for name, arguments in asked.items():
            self.assertEqual(list(inspect.signature(getattr(module, name)).parameters), arguments)


if __name__ == "__main__":
    unittest.main()
