"""Point 27: what falls apart by slants or is stuck."""

import itertools
import unittest

from barsplit.alike import alike
from barsplit.sides import beside
from barsplit.upon import fallen, laid_upon
from tests.helpers import (
    PRIMES, all_kinds, all_lists_of_tables, is_table, join_sizes, nought_joins, plainly_bar_row, plainly_product,
    rooms_of, slanted, small_pairs, some_joins, some_row, some_table, turned_bars, ways_in, wide_pairs)


def some_slants(seed, under, upper):
    return [some_table(f"slant {seed} {k}", under[0], *size) for k, size in enumerate(zip(under[1], upper[1]))]


def weighed(under, upper, weights, room):
    """The table that point 27 asks to have noughts alone in a room."""
    p, high, wide = under[0], upper[1][room], under[1][room]
    total = [[0] * wide for _ in range(high)]
    for k, way in enumerate(ways_in(under)):
        begin, end = rooms_of(k, way)
        parts = [(1, plainly_product(p, weights[k], under[2][k][1]))] if begin == room else []
        parts += [(-1, plainly_product(p, upper[2][k][1], weights[k]))] if end == room else []
        for sign, part in parts:
            total = [[(x + sign * y) % p for x, y in zip(a, b)] for a, b in zip(total, part[2])]
    return total


def traces(p, weights, joins):
    """The sum over all arrows of the traces of weight times join."""
    both = [plainly_product(p, weight, join) for weight, join in zip(weights, joins)]
    return sum(table[2][i][i] for table in both for i in range(table[0])) % p


class TestFallen(unittest.TestCase):
    def looked_at(self, under, upper, joins):
        """That slants or weights are told as point 27 asks; told is which of the two."""
        told = fallen(under, upper, joins)
        p, about = under[0], (under, upper, joins)
        self.assertIs(type(told), tuple, about)
        self.assertEqual(len(told), 2, about)
        kind, tables = told
        self.assertIs(type(tables), list, about)
        if kind == "parted":
            sizes = list(zip(under[1], upper[1]))
        else:
            self.assertEqual(kind, "stuck", about)
            sizes = [(wide, high) for high, wide in join_sizes(under, upper)]
        self.assertEqual([table[:2] for table in tables], sizes, about)
        self.assertTrue(all(is_table(p, table) for table in tables), about)
        if kind == "parted":
            self.assertEqual(slanted(under, upper, tables), joins, about)
        else:
            for room in range(len(under[1])):
                self.assertEqual(weighed(under, upper, tables, room),
                                 [[0] * under[1][room]] * upper[1][room], about)
            self.assertNotEqual(traces(p, tables, joins), 0, about)
        return kind

    def test_small_rows_gone_through_by_all_joins(self):
        found = {"parted": 0, "stuck": 0}
        for p in PRIMES:
            for under, upper in small_pairs(p, 2):
                made = [slanted(under, upper, slants)
                        for slants in all_lists_of_tables(p, list(zip(under[1], upper[1])))]
                for joins in all_lists_of_tables(p, join_sizes(under, upper)):
                    kind = self.looked_at(under, upper, joins)
                    self.assertEqual(kind, "parted" if joins in made else "stuck", (under, upper, joins))
                    found[kind] += 1
        self.assertGreater(min(found.values()), 500)

    def test_joins_of_drawn_slants_are_parted(self):
        for p in PRIMES:
            for under, upper in wide_pairs(p):
                joins = slanted(under, upper, some_slants("drawn", under, upper))
                self.assertEqual(self.looked_at(under, upper, joins), "parted")

    def test_drawn_joins_of_drawn_rows(self):
        found = []
        for p in PRIMES:
            for under, upper in wide_pairs(p):
                found.append(self.looked_at(under, upper, some_joins("drawn", under, upper)))
        self.assertGreater(min(found.count("parted"), found.count("stuck")), 40)

    def test_thirty_together(self):
        found = []
        for p in PRIMES:
            for ways in all_kinds()[::2] + ["rlrlr", "lrlrl", "rlr", "lr"]:
                _, under = turned_bars(f"under {ways}", p, ways, 15)
                _, upper = turned_bars(f"upper {ways}", p, ways, 15)
                found.append(self.looked_at(under, upper, some_joins("thirty", under, upper)))
                joins = slanted(under, upper, some_slants("thirty", under, upper))
                self.assertEqual(self.looked_at(under, upper, joins), "parted")
        self.assertGreater(found.count("stuck"), 40)

    def test_fallen_apart_just_where_alike_to_the_rows_beside_one_another(self):
        found = []
        for p in PRIMES:
            for under, upper in small_pairs(p, 3):
                for seed in range(2):
                    joins = some_joins(f"alike {seed}", under, upper)
                    found.append(fallen(under, upper, joins)[0])
                    asked = alike(laid_upon(under, upper, joins), beside(under, upper))[0]
                    self.assertEqual(found[-1], {"alike": "parted", "apart": "stuck"}[asked], (under, upper, joins))
        self.assertGreater(min(found.count("parted"), found.count("stuck")), 100)

    def test_known_bars(self):
        for p in PRIMES:
            for ways, one, other in (("r", (0, 0), (1, 1)), ("l", (1, 1), (0, 0))):
                upper, under = plainly_bar_row(p, ways, [one]), plainly_bar_row(p, ways, [other])
                for x in range(1, p):
                    kind, weights = fallen(under, upper, [(1, 1, ((x,),))])
                    self.assertEqual((kind, weights[0][:2], len(weights)), ("stuck", (1, 1), 1))
                    self.assertNotEqual(weights[0][2], ((0,),))
                told = fallen(under, upper, [(1, 1, ((0,),))])
                self.assertEqual(told[0], "parted")
                # Either row has no numbers where the other one has.
                self.assertEqual([slant[2] for slant in told[1]], [(), ((),)] if ways == "r" else [((),), ()])
                self.assertEqual(fallen(upper, under, [(0, 0, ())])[0], "parted")

    def test_rows_of_one_room(self):
        for p in PRIMES:
            for low, up in itertools.product((0, 1, 3, 15), repeat=2):
                self.assertEqual(self.looked_at((p, (low,), ()), (p, (up,), ()), []), "parted")
        self.assertEqual(fallen((2, (0,), ()), (2, (30,), ()), []), ("parted", [(0, 30, ())]))

    def test_rows_without_numbers(self):
        for p in PRIMES:
            for ways in all_kinds():
                many = len(ways) + 1
                none, some = some_row("none", p, ways, (0,) * many), some_row("some", p, ways, (3,) * many)
                for under, upper in ((none, none), (none, some), (some, none)):
                    self.assertEqual(self.looked_at(under, upper, nought_joins(under, upper)), "parted")


if __name__ == "__main__":
    unittest.main()
