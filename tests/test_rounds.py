"""Points 32 and 33, and point 2 for widths in rounds."""

import copy
import inspect
import itertools
import random
import unittest

from barsplit import rounds
from barsplit.about import turned_about
from barsplit.rounds import all_stretches, turning_order, ways_about, widths_about, widths_round
from tests.helpers import (
    FORTY, PRIMES, Refusing, all_kinds, some_row, some_widths, stretches, turned_bars, turning_rooms, turns_of,
    ways_in)

OTHER = {"r": "l", "l": "r"}


def some_numbers(seed, many):
    """Whole numbers, some of them below 0, some of forty figures, some 0."""
    source = random.Random(f"numbers {seed} {many}")
    return tuple(source.choice((0, 1, -1, source.randrange(-9, 10), FORTY, -FORTY,
                                source.randrange(-FORTY, FORTY))) for _ in range(many))


def plainly_moved(widths, k):
    """Point 32 word by word."""
    made = list(widths)
    near = [widths[room] for room in range(len(widths)) if abs(room - k) == 1]
    made[k] = sum(near) - widths[k]
    return tuple(made)


def plainly_turned(ways, k):
    """The ways with each arrow of room k the other way."""
    return "".join(OTHER[way] if k in (at, at + 1) else way for at, way in enumerate(ways))


def plainly_ordered(ways):
    """Point 33 word by word."""
    order = []
    while len(order) <= len(ways):
        order.append(min(room for room in turns_of(ways)[0] if room not in order))
        ways = plainly_turned(ways, order[-1])
    return order, ways


class TestWidthsAbout(unittest.TestCase):
    def test_the_room_and_no_other(self):
        for ways in all_kinds():
            for k in turning_rooms(ways):
                for seed in range(4):
                    widths = some_numbers(f"{seed} {ways}", len(ways) + 1)
                    told = widths_about(ways, k, widths)
                    self.assertIs(type(told), tuple)
                    self.assertEqual(told, plainly_moved(widths, k), (ways, k, widths))
                    self.assertEqual({type(width) for width in told}, {int})

    def test_known_widths(self):
        self.assertEqual(widths_about("rl", 1, (2, 3, 4)), (2, 3, 4))
        self.assertEqual(widths_about("lr", 1, (2, 1, 4)), (2, 5, 4))
        self.assertEqual(widths_about("rl", 0, (2, 3, 4)), (1, 3, 4))
        self.assertEqual(widths_about("rl", 2, (2, 3, 4)), (2, 3, -1))
        self.assertEqual(widths_about("", 0, (7,)), (-7,))
        self.assertEqual(widths_about("", 0, (-FORTY,)), (FORTY,))
        self.assertEqual(widths_about("rlrlr", 3, (-1, -2, FORTY, 1, FORTY, 0)),
                         (-1, -2, FORTY, 2 * FORTY - 1, FORTY, 0))

    def test_twice_is_as_it_was(self):
        for ways in all_kinds():
            widths = some_numbers(f"twice {ways}", len(ways) + 1)
            for k in turning_rooms(ways):
                there = widths_about(ways, k, widths)
                self.assertEqual(widths_about(ways_about(ways, k), k, there), widths)

    def test_the_widths_of_a_row_turned_about(self):
        for p in PRIMES:
            for ways in all_kinds():
                bars, row = turned_bars(f"widths {ways}", p, ways, 12)
                for k in turning_rooms(ways):
                    # Bars of the room alone are lost, all others go over as the widths do.
                    left = tuple(width - bars.count((k, k)) * (room == k) for room, width in enumerate(row[1]))
                    self.assertEqual(turned_about(row, k)[1], widths_about(ways, k, left), (row, k))


class TestWaysAbout(unittest.TestCase):
    def test_the_arrows_of_the_room_and_no_other(self):
        for ways in all_kinds():
            for k in turning_rooms(ways):
                told = ways_about(ways, k)
                self.assertIs(type(told), str)
                self.assertEqual(told, plainly_turned(ways, k), (ways, k))
                self.assertEqual(ways_about(told, k), ways)

    def test_an_end_becomes_a_beginning_and_the_other_way_round(self):
        for ways in all_kinds():
            ends, beginnings = turns_of(ways)
            for k in ends:
                self.assertIn(k, turns_of(ways_about(ways, k))[1])
            for k in beginnings:
                self.assertIn(k, turns_of(ways_about(ways, k))[0])

    def test_the_ways_of_a_row_turned_about(self):
        for p in PRIMES:
            for ways in all_kinds():
                row = some_row("ways", p, ways, some_widths(f"ways {ways}", len(ways) + 1, 2))
                for k in turning_rooms(ways):
                    self.assertEqual(ways_in(turned_about(row, k)), ways_about(ways, k))

    def test_known_ways(self):
        self.assertEqual(ways_about("", 0), "")
        self.assertEqual([ways_about("rl", k) for k in range(3)], ["ll", "lr", "rr"])
        self.assertEqual([ways_about("r", k) for k in range(2)], ["l", "l"])
        self.assertEqual(ways_about("rrlrr", 2), "rlrrr")
        self.assertEqual(ways_about("rrlrr", 5), "rrlrl")


class TestRefusals(Refusing, unittest.TestCase):
    def test_rooms_that_are_not_there(self):
        for ways in all_kinds():
            many = len(ways) + 1
            for k in (-1, -2, -many, -FORTY, many, many + 1, 6, 7, FORTY, True, False):
                self.refused("NoRoom", {"room": k}, ways_about, ways, k)
                self.refused("NoRoom", {"room": k}, widths_about, ways, k, (1,) * many)

    def test_rooms_that_are_neither(self):
        found = 0
        for ways in all_kinds():
            for k in range(len(ways) + 1):
                if k not in turning_rooms(ways):
                    self.refused("NoTurn", {}, ways_about, ways, k)
                    self.refused("NoTurn", {}, widths_about, ways, k, some_numbers("neither", len(ways) + 1))
                    found += 1
        self.assertGreater(found, 50)

    def test_known_rooms_that_are_neither(self):
        for ways in ("rr", "ll"):
            self.refused("NoTurn", {}, ways_about, ways, 1)
            self.refused("NoTurn", {}, widths_about, ways, 1, (1, 2, 3))


class TestTurningOrder(unittest.TestCase):
    def test_ever_the_least_end_not_told_yet(self):
        for ways in all_kinds():
            told = turning_order(ways)
            self.assertIs(type(told), list)
            self.assertEqual({type(room) for room in told}, {int})
            self.assertEqual(told, plainly_ordered(ways)[0], ways)
            self.assertEqual(sorted(told), list(range(len(ways) + 1)))

    def test_behind_all_of_them_the_ways_are_as_they_were(self):
        for ways in all_kinds():
            now = ways
            for k in turning_order(ways):
                self.assertIn(k, turns_of(now)[0])
                now = ways_about(now, k)
            self.assertEqual(now, ways)

    def test_known_orders(self):
        asked = {"": [0], "r": [1, 0], "l": [0, 1], "rr": [2, 1, 0], "ll": [0, 1, 2], "rl": [1, 0, 2], "lr": [0, 2, 1],
                 "rlr": [1, 0, 3, 2], "lrl": [0, 2, 1, 3], "rrlll": [2, 1, 0, 3, 4, 5], "rrrrr": [5, 4, 3, 2, 1, 0]}
        for ways, order in asked.items():
            self.assertEqual(turning_order(ways), order, ways)


class TestWidthsRound(unittest.TestCase):
    def test_moved_at_all_rooms_in_their_order(self):
        for ways in all_kinds():
            for seed in range(4):
                widths = some_numbers(f"round {seed} {ways}", len(ways) + 1)
                asked = widths
                for k in plainly_ordered(ways)[0]:
                    asked = plainly_moved(asked, k)
                told = widths_round(ways, widths)
                self.assertIs(type(told), tuple)
                self.assertEqual(told, asked, (ways, widths))

    def test_behind_as_many_rounds_as_rooms_and_one_they_are_as_they_were(self):
        for ways in all_kinds():
            many = len(ways) + 1
            for seed in range(4):
                widths = some_numbers(f"back {seed} {ways}", many)
                now = widths
                for _ in range(many + 1):
                    now = widths_round(ways, now)
                self.assertEqual(now, widths, ways)

    def test_not_all_are_as_they_were_sooner(self):
        for ways in all_kinds():
            many = len(ways) + 1
            now = starts = [tuple(int(room == k) for room in range(many)) for k in range(many)]
            for _ in range(many):
                now = [widths_round(ways, widths) for widths in now]
                self.assertNotEqual(now, starts, ways)

    def test_step_by_step_as_widths_are_moved_and_ways_turned(self):
        for ways in all_kinds():
            widths = some_numbers(f"steps {ways}", len(ways) + 1)
            now, turned = widths, ways
            for k in turning_order(ways):
                now, turned = widths_about(turned, k, now), ways_about(turned, k)
            self.assertEqual(widths_round(ways, widths), now)

    def test_known_rounds(self):
        self.assertEqual(widths_round("", (5,)), (-5,))
        self.assertEqual(widths_round("r", (1, 0)), (0, 1))
        self.assertEqual(widths_round("r", (0, 1)), (-1, -1))
        self.assertEqual(widths_round("l", (1, 0)), (-1, -1))
        self.assertEqual(widths_round("rl", (1, 1, 1)), (0, 1, 0))


class TestAllStretches(unittest.TestCase):
    def test_sorted_and_all(self):
        for many in range(1, 7):
            told = all_stretches(many)
            self.assertIs(type(told), list)
            asked = [(i, j) for i, j in itertools.product(range(many), repeat=2) if i <= j]
            self.assertEqual(told, sorted(asked))
            self.assertEqual(told, stretches(many))
            self.assertEqual({type(stretch) for stretch in told}, {tuple})
            self.assertEqual(len(told), many * (many + 1) // 2)

    def test_known_stretches(self):
        self.assertEqual(all_stretches(1), [(0, 0)])
        self.assertEqual(all_stretches(3), [(0, 0), (0, 1), (0, 2), (1, 1), (1, 2), (2, 2)])


class TestHanding(unittest.TestCase):
    def test_told_lists_may_be_spoilt(self):
        asks = [(turning_order, ways) for ways in all_kinds()] + [(all_stretches, many) for many in range(1, 7)]
        for ask, handed in asks:
            told = ask(handed)
            asked = copy.deepcopy(told)
            told.append("spoilt")
            told.reverse()
            self.assertEqual(ask(handed), asked)

    def test_asked_again_is_answered_the_same(self):
        for ways in all_kinds(4):
            widths = some_numbers("again", len(ways) + 1)
            before = copy.deepcopy(widths)
            first = widths_round(ways, widths), [widths_about(ways, k, widths) for k in turning_rooms(ways)]
            self.assertEqual(widths, before)
            again = widths_round(ways, before), [widths_about(ways, k, before) for k in turning_rooms(ways)]
            self.assertEqual(again, first)

    def test_names_of_the_arguments(self):
        asked = {
            "widths_about": ["ways", "k", "widths"], "ways_about": ["ways", "k"], "turning_order": ["ways"],
            "widths_round": ["ways", "widths"], "all_stretches": ["many"],
        }
        for name, arguments in asked.items():
            self.assertEqual(list(inspect.signature(getattr(rounds, name)).parameters), arguments)


if __name__ == "__main__":
    unittest.main()
