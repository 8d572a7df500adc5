"""Points 29, 30 and 31, and point 2 for rows turned about."""

import copy
import inspect
import random
import unittest

from barsplit import about
from barsplit.about import bars_about, turned_about
from barsplit.alike import alike
from barsplit.barring import barred
from barsplit.sides import mirrored
from barsplit.spaces import base_of
from tests.helpers import (
    FORTY, PRIMES, Refusing, all_kinds, all_loads, is_base, is_row, plainly_bar_row, plainly_led, some_row,
    some_rows_of_rooms, some_widths, span, stretches, turned_bars, turned_row, turning_rooms, turns_of, units, ways_in)

# So many numbers may the neighbours have together, when all their loads are gone through.
MOST_LOADS = {2: 6, 3: 5, 5: 3, 7: 3}


def arrows_of(row, k):
    """The arrows of a room with their numbers, the left one ahead."""
    return [(at, row[2][at]) for at in (k - 1, k) if 0 <= at < len(row[2])]


def neighbours(row, k):
    return [room for room in (k - 1, k + 1) if 0 <= room < len(row[1])]


def parted(row, k, load):
    """The loads of the neighbours, which stand in this load one behind the other."""
    parts, begin = [], 0
    for room in neighbours(row, k):
        parts.append(load[begin:begin + row[1][room]])
        begin += row[1][room]
    return parts


def led_sum(row, k, load):
    """All that is led from the neighbours to room k, added up."""
    total = (0,) * row[1][k]
    for (_, (_, table)), part in zip(arrows_of(row, k), parted(row, k, load)):
        total = tuple((x + y) % row[0] for x, y in zip(total, plainly_led(row[0], table, part)))
    return total


def led_out(row, k, load):
    """The load of the neighbours, both at once, to which room k leads."""
    return sum((plainly_led(row[0], table, load) for _, (_, table) in arrows_of(row, k)), ())


def numbers_beside(row, k):
    return sum(row[1][room] for room in neighbours(row, k))


def rows_to_turn(p, most):
    """Rows of each kind with each of the rooms that may be turned about, none too wide."""
    for ways in all_kinds():
        for seed in range(2):
            row = some_row(f"about {seed}", p, ways, some_widths(f"about {seed} {ways}", len(ways) + 1))
            for k in turning_rooms(ways):
                if numbers_beside(row, k) <= most:
                    yield row, k


class TestTurnedAbout(unittest.TestCase):
    def all_else_stays(self, row, k, told):
        self.assertTrue(is_row(told), (row, k, told))
        self.assertEqual(told[0], row[0])
        for room, width in enumerate(row[1]):
            self.assertTrue(room == k or told[1][room] == width)
        for at, (way, table) in enumerate(row[2]):
            if at in (k - 1, k):
                self.assertEqual(told[2][at][0], {"r": "l", "l": "r"}[way])
            else:
                self.assertEqual(told[2][at], (way, table))

    def test_at_an_end_all_loads_of_the_neighbours_gone_through(self):
        found = 0
        for p in PRIMES:
            for row, k in rows_to_turn(p, MOST_LOADS[p]):
                if k in turns_of(ways_in(row))[0]:
                    told = turned_about(row, k)
                    self.all_else_stays(row, k, told)
                    many = numbers_beside(row, k)
                    asked = {load for load in all_loads(p, many) if not any(led_sum(row, k, load))}
                    # What the units are led to, both at once, are the loads of the base.
                    base = [led_out(told, k, unit) for unit in units(told[1][k])]
                    self.assertTrue(is_base(p, many, base), (row, k, told))
                    self.assertEqual(span(p, many, base), asked, (row, k, told))
                    found += 0 < len(base) < many
        self.assertGreater(found, 100)

    def test_at_a_beginning_all_loads_of_the_neighbours_gone_through(self):
        found = 0
        for p in PRIMES:
            for row, k in rows_to_turn(p, MOST_LOADS[p]):
                if k in turns_of(ways_in(row))[1]:
                    told = turned_about(row, k)
                    self.all_else_stays(row, k, told)
                    many = numbers_beside(row, k)
                    space = {led_out(row, k, load) for load in all_loads(p, row[1][k])}
                    leads = {next(at for at, x in enumerate(load) if x) for load in space if any(load)}
                    others = [at for at in range(many) if at not in leads]
                    self.assertEqual(told[1][k], len(others))
                    for load in all_loads(p, many):
                        sums = [tuple((x + y) % p for x, y in zip(load, more)) for more in space]
                        left = [one for one in sums if not any(one[at] for at in leads)]
                        self.assertEqual(len(left), 1)
                        asked = tuple(left[0][at] for at in others)
                        self.assertEqual(led_sum(told, k, load), asked, (row, k, told))
                    found += 0 < len(leads) < many
        self.assertGreater(found, 100)

    def test_wide_rows(self):
        found = {True: 0, False: 0}
        for p in PRIMES:
            for ways in all_kinds():
                bars, row = turned_bars(f"wide {ways}", p, ways, 18)
                for k in turning_rooms(ways):
                    many, end = numbers_beside(row, k), k in turns_of(ways)[0]
                    lost = bars.count((k, k))
                    if sum(row[1]) - 2 * row[1][k] + lost + many > 30:
                        continue
                    told = turned_about(row, k)
                    self.all_else_stays(row, k, told)
                    self.assertEqual(told[1][k], many - row[1][k] + lost)
                    if end:
                        base = [led_out(told, k, unit) for unit in units(told[1][k])]
                        self.assertTrue(is_base(p, many, base), (row, k, told))
                        self.assertFalse(any(any(led_sum(row, k, load)) for load in base))
                    else:
                        base = base_of(p, many, [led_out(row, k, unit) for unit in units(row[1][k])])
                        leads = [next(at for at, x in enumerate(load) if x) for load in base]
                        self.assertFalse(any(any(led_sum(told, k, load)) for load in base))
                        others = [unit for at, unit in enumerate(units(many)) if at not in leads]
                        self.assertEqual([led_sum(told, k, unit) for unit in others], units(told[1][k]))
                    found[end] += 1
        self.assertGreater(min(found.values()), 100)

    def test_known_rows_at_an_end(self):
        # Two neighbours.
        row = (5, (2, 1, 1), (("r", (1, 2, ((1, 2),))), ("l", (1, 1, ((3,),)))))
        self.assertEqual(turned_about(row, 1), (
            5, (2, 2, 1), (("l", (2, 2, ((1, 0), (0, 1)))), ("r", (1, 2, ((3, 1),))))))
        # One alone, on the left and on the right.
        row = (7, (3, 2), (("r", (2, 3, ((1, 2, 0), (0, 0, 1)))),))
        self.assertEqual(turned_about(row, 1), (7, (3, 1), (("l", (3, 1, ((1,), (3,), (0,)))),)))
        row = (7, (2, 3), (("l", (2, 3, ((1, 2, 0), (0, 0, 1)))),))
        self.assertEqual(turned_about(row, 0), (7, (1, 3), (("r", (3, 1, ((1,), (3,), (0,)))),)))
        # Rooms further off stay, with their arrows.
        row = (3, (1, 1, 2, 1), (("l", (1, 1, ((2,),))), ("r", (2, 1, ((1,), (1,)))), ("l", (2, 1, ((2,), (2,))))))
        self.assertEqual(turned_about(row, 2), (
            3, (1, 1, 1, 1), (("l", (1, 1, ((2,),))), ("l", (1, 1, ((1,),))), ("r", (1, 1, ((1,),))))))
        # Nothing is led to noughts but noughts.
        row = (2, (1, 1), (("r", (1, 1, ((1,),))),))
        self.assertEqual(turned_about(row, 1), (2, (1, 0), (("l", (1, 0, ((),))),)))

    def test_known_rows_at_a_beginning(self):
        # Two neighbours: what room 1 leads to is the base [(1, 3, 4)].
        row = (5, (2, 1, 1), (("l", (2, 1, ((2,), (1,)))), ("r", (1, 1, ((3,),)))))
        self.assertEqual(turned_about(row, 1), (
            5, (2, 2, 1), (("r", (2, 2, ((2, 1), (1, 0)))), ("l", (2, 1, ((0,), (1,)))))))
        # One alone, on the left and on the right: the base is [(1, 0, 4), (0, 1, 0)].
        row = (7, (3, 2), (("l", (3, 2, ((1, 0), (0, 1), (4, 0)))),))
        self.assertEqual(turned_about(row, 1), (7, (3, 1), (("r", (1, 3, ((3, 0, 1),))),)))
        row = (7, (2, 3), (("r", (3, 2, ((1, 0), (0, 1), (4, 0)))),))
        self.assertEqual(turned_about(row, 0), (7, (1, 3), (("l", (1, 3, ((3, 0, 1),))),)))
        # The lead need not stand ahead.
        row = (3, (2, 1), (("l", (2, 1, ((0,), (2,)))),))
        self.assertEqual(turned_about(row, 1), (3, (2, 1), (("r", (1, 2, ((1, 0),))),)))
        # All is led to.
        row = (2, (1, 1), (("l", (1, 1, ((1,),))),))
        self.assertEqual(turned_about(row, 1), (2, (1, 0), (("r", (0, 1, ())),)))

    def test_a_row_of_one_room(self):
        for p in PRIMES:
            for width in (0, 1, 2, 30):
                self.assertEqual(turned_about((p, (width,), ()), 0), (p, (0,), ()))

    def test_widths_of_nought(self):
        for p in PRIMES:
            for way, other in (("r", "l"), ("l", "r")):
                # The room itself has no numbers, so all of its neighbour's are new ones.
                wide = {"r": (0, 2, ()), "l": (2, 0, ((), ()))}[way]
                same = (2, 2, ((1, 0), (0, 1)))
                self.assertEqual(turned_about((p, (2, 0), ((way, wide),)), 1), (p, (2, 2), ((other, same),)))
                self.assertEqual(turned_about((p, (0, 2), ((other, wide),)), 0), (p, (2, 2), ((way, same),)))
                # The neighbour has none.
                table = {"r": (2, 0, ((), ())), "l": (0, 2, ())}[way]
                self.assertEqual(turned_about((p, (0, 2), ((way, table),)), 1), (p, (0, 0), ((other, (0, 0, ())),)))
            for ways in all_kinds():
                many = len(ways) + 1
                none = some_row("none", p, ways, (0,) * many)
                for k in turning_rooms(ways):
                    told = turned_about(none, k)
                    self.assertEqual(told[1], none[1])
                    self.all_else_stays(none, k, told)

    def test_mirrored_at_an_end_has_the_neighbours_in_the_other_order(self):
        for p in PRIMES:
            for row, k in rows_to_turn(p, 6):
                last = len(row[1]) - 1
                one, other = mirrored(turned_about(row, k)), turned_about(mirrored(row), last - k)
                self.assertEqual((one[1], ways_in(one)), (other[1], ways_in(other)))
                self.assertEqual(alike(one, other)[0], "alike")


class TestBars(unittest.TestCase):
    def test_the_bars_are_those_of_the_bars_gone_over(self):
        for p in PRIMES:
            for ways in all_kinds():
                for together in (1, 7, 15):
                    bars, row = turned_bars(f"over {ways}", p, ways, together)
                    for k in turning_rooms(ways):
                        asked = bars_about(ways, k, bars)
                        self.assertEqual(barred(turned_about(row, k))[0], asked, (row, k))

    def test_the_bars_of_drawn_tables(self):
        for p in PRIMES:
            for row, k in rows_to_turn(p, 9):
                asked = bars_about(ways_in(row), k, barred(row)[0])
                self.assertEqual(barred(turned_about(row, k))[0], asked, (row, k))

    def test_twice_is_alike_to_the_row_without_the_bars_of_the_room_alone(self):
        lost = 0
        for p in PRIMES:
            for ways in all_kinds():
                for together in (2, 9, 14):
                    bars, row = turned_bars(f"twice {ways}", p, ways, together)
                    for k in turning_rooms(ways):
                        told = turned_about(turned_about(row, k), k)
                        left = [bar for bar in bars if bar != (k, k)]
                        asked = plainly_bar_row(p, ways, left)
                        self.assertEqual(alike(told, asked)[0], "alike", (row, k))
                        if len(left) == len(bars):
                            self.assertEqual(alike(told, row)[0], "alike", (row, k))
                        lost += len(left) < len(bars)
        self.assertGreater(lost, 100)

    def test_a_row_of_one_room_twice(self):
        for p in PRIMES:
            row = turned_about(turned_about((p, (4,), ()), 0), 0)
            self.assertEqual(row, (p, (0,), ()))


class TestRefusals(Refusing, unittest.TestCase):
    def test_rooms_that_are_not_there(self):
        for ways in all_kinds():
            many = len(ways) + 1
            row = some_row("no room", 5, ways, some_widths("no room", many, 2))
            for k in (-1, -2, -many, -many - 1, -FORTY, many, many + 1, 6, 7, FORTY, True, False):
                self.refused("NoRoom", {"room": k}, turned_about, row, k)
                self.refused("NoRoom", {"room": k}, bars_about, ways, k, [(0, 0), (0, many - 1)])

    def test_rooms_that_are_neither(self):
        for p in PRIMES:
            for ways in all_kinds():
                for widths in ((1, 2, 0, 1, 1, 2), (8, 0, 9, 0, 7, 6)):
                    row = some_row("neither", p, ways, widths[:len(ways) + 1])
                    for k in range(len(ways) + 1):
                        if k in turning_rooms(ways):
                            self.assertEqual(bars_about(ways, k, []), [])
                        else:
                            self.refused("NoTurn", {}, turned_about, row, k)
                            self.refused("NoTurn", {}, bars_about, ways, k, [(0, 0)])

    def test_known_rooms_that_are_neither(self):
        row = some_row("known", 2, "rrl", (1, 1, 1, 1))
        self.refused("NoTurn", {}, turned_about, row, 1)
        self.refused("NoTurn", {}, bars_about, "rrl", 1, [])
        for k in (0, 2, 3):
            self.assertTrue(is_row(turned_about(row, k)))

    def test_thirty_and_thirty_one_together(self):
        for p in PRIMES:
            # The bars of the rows, and the room; each has thirty together behind it, and one more bar makes it more.
            for bars, k, ways, more in (
                    ([(0, 0)] * 15, 1, "r", (0, 1)), ([(1, 1)] * 15, 0, "r", (0, 1)),
                    ([(0, 0)] * 15, 1, "l", (0, 1)), ([(1, 1)] * 15, 0, "l", (0, 1)),
                    ([(0, 0)] * 8 + [(2, 2)] * 7, 1, "rl", (0, 1)), ([(0, 0)] * 8 + [(2, 2)] * 7, 1, "lr", (1, 2)),
                    ([(0, 0)] * 5 + [(2, 2)] * 5 + [(3, 3)] * 10, 1, "rlr", (3, 3)),
                    ([(0, 0)] * 5 + [(2, 2)] * 5 + [(3, 3)] * 10, 1, "lrl", (3, 3)),
                    ([(0, 0)] * 5 + [(2, 2)] * 5 + [(5, 5)] * 10, 1, "rlrlr", (5, 5)),
                    ([(4, 4)] * 10 + [(0, 0)] * 10, 5, "rlrlr", (0, 1))):
                row = turned_row("thirty", p, ways, bars)
                self.assertEqual(sum(turned_about(row, k)[1]), 30)
                self.refused("TooMany", {}, turned_about, turned_row("more", p, ways, bars + [more]), k)
                # Bars are no widths, and go over however many they are.
                self.assertEqual(len(bars_about(ways, k, bars + [more])), len(bars) + 1)

    def test_what_is_less_behind_it_is_not_refused(self):
        for p in PRIMES:
            self.assertEqual(turned_about((p, (30,), ()), 0), (p, (0,), ()))
            row = plainly_bar_row(p, "r", [(1, 1)] * 30)
            self.assertEqual(turned_about(row, 1), (p, (0, 0), (("l", (0, 0, ())),)))
            row = plainly_bar_row(p, "l", [(0, 1)] * 15)
            self.assertEqual(turned_about(row, 1)[1], (15, 0))


class TestBarsAbout(unittest.TestCase):
    def gone_over(self, k, bar):
        """What point 30 makes of a stretch, word by word: a list of one or, where it is lost, of none."""
        i, j = bar
        if (i, j) == (k, k):
            return []
        if j == k and i < k:
            return [(i, k - 1)]
        if j == k - 1:
            return [(i, k)]
        if i == k and j > k:
            return [(k + 1, j)]
        if i == k + 1:
            return [(k, j)]
        return [(i, j)]

    def test_each_stretch_alone(self):
        for ways in all_kinds():
            for k in turning_rooms(ways):
                for bar in stretches(len(ways) + 1):
                    told = bars_about(ways, k, [bar])
                    self.assertIs(type(told), list)
                    self.assertEqual(told, self.gone_over(k, bar), (ways, k, bar))
                    for one in told:
                        self.assertEqual([type(one)] + [type(room) for room in one], [tuple, int, int])
                        self.assertIn(one, stretches(len(ways) + 1))

    def test_all_stretches_several_times_and_in_any_order(self):
        for ways in all_kinds():
            for k in turning_rooms(ways):
                for seed in range(5):
                    source = random.Random(f"{ways} {k} {seed}")
                    bars = [bar for bar in stretches(len(ways) + 1) for _ in range(source.randrange(3))]
                    source.shuffle(bars)
                    asked = sorted(sum((self.gone_over(k, bar) for bar in bars), []))
                    self.assertEqual(bars_about(ways, k, bars), asked, (ways, k, bars))

    def test_turned_back_all_but_the_lost_ones_return(self):
        for ways in all_kinds():
            for k in turning_rooms(ways):
                turned = "".join({"r": "l", "l": "r"}[way] if at in (k - 1, k) else way for at, way in enumerate(ways))
                bars = stretches(len(ways) + 1)
                there = bars_about(ways, k, bars)
                self.assertNotIn((k, k), there)
                self.assertEqual(there, [bar for bar in bars if bar != (k, k)])
                for bar in there:
                    self.assertEqual(bars_about(turned, k, bars_about(ways, k, [bar])), [bar])

    def test_known_bars(self):
        self.assertEqual(bars_about("rl", 1, [(1, 2), (0, 2), (1, 1), (0, 1), (0, 0), (2, 2)]),
                         [(0, 0), (0, 1), (0, 2), (1, 2), (2, 2)])
        self.assertEqual(bars_about("rl", 1, [(0, 0), (0, 0), (1, 2)]), [(0, 1), (0, 1), (2, 2)])
        self.assertEqual(bars_about("", 0, [(0, 0), (0, 0)]), [])
        self.assertEqual(bars_about("", 0, []), [])
        self.assertEqual(bars_about("r", 0, [(1, 1), (0, 1), (0, 0)]), [(0, 1), (1, 1)])


class TestHanding(unittest.TestCase):
    def test_what_is_handed_in_stays_and_is_answered_the_same(self):
        for p in PRIMES:
            for row in some_rows_of_rooms(p, 4):
                for k in turning_rooms(ways_in(row)):
                    before = copy.deepcopy(row)
                    told = turned_about(row, k)
                    self.assertEqual(row, before)
                    self.assertEqual(turned_about(before, k), told)

    def test_bars_stay_and_may_be_changed_afterwards(self):
        for ways in all_kinds(4):
            for k in turning_rooms(ways):
                bars = stretches(len(ways) + 1)[::-1] * 2
                before = list(bars)
                told = bars_about(ways, k, bars)
                asked = list(told)
                self.assertEqual(bars, before)
                bars.clear()
                self.assertEqual(told, asked)
                told.append("spoilt")
                told.reverse()
                self.assertEqual(bars_about(ways, k, before), asked)

    def test_the_told_list_is_a_new_one(self):
        for bars in ([], [(0, 2)], [(0, 0), (2, 2)]):
            self.assertIsNot(bars_about("rl", 1, bars), bars)

    def test_names_of_the_arguments(self):
        asked = {"turned_about": ["row", "k"], "bars_about": ["ways", "k", "bars"]}
        for name, arguments in asked.items():
            self.assertEqual(list(inspect.signature(getattr(about, name)).parameters), arguments)


if __name__ == "__main__":
    unittest.main()
