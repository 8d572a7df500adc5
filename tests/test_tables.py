"""Points 4, 5 and 6, and point 2 for tables."""

import inspect
import unittest

from barsplit import tables
from barsplit.errors import NoPrime, NoTable, Nought, SplitError
from barsplit.tables import (
    added, inverse, led, less, nought_table, product, same_table, table_of, turned_over)
from tests.helpers import FORTY, PRIMES, all_loads, is_table, plainly_led, some_rows, some_table

SIZES = ((0, 0), (0, 3), (2, 0), (1, 1), (2, 3), (3, 2), (4, 4))


class TestRests(unittest.TestCase):
    def test_inverse_times_the_rest_is_one(self):
        for p in PRIMES:
            for x in range(1, p):
                told = inverse(p, x)
                self.assertIs(type(told), int)
                self.assertIn(told, range(1, p))
                self.assertEqual(x * told % p, 1)

    def test_inverse_of_nought_is_refused(self):
        for p in PRIMES:
            with self.assertRaises(SplitError) as caught:
                inverse(p, 0)
            self.assertIs(type(caught.exception), Nought)

    def test_inverse_of_numbers_beyond_the_rests(self):
        self.assertEqual(inverse(5, -2), 2)
        self.assertEqual(inverse(7, FORTY), inverse(7, FORTY % 7))
        with self.assertRaises(Nought):
            inverse(3, -FORTY)

    def test_rests_of_numbers_below_nought_and_very_large_ones(self):
        numbers = [-1, -2, -7, -8, 0, 6, 7, 8, FORTY, -FORTY, 10 ** 39 + 1, -(10 ** 39) - 1]
        for p in PRIMES:
            told = table_of(p, 1, len(numbers), [numbers])[2][0]
            for x, rest in zip(numbers, told):
                self.assertIs(type(rest), int)
                self.assertTrue(0 <= rest < p)
                self.assertEqual((x - rest) % p, 0)

    def test_known_rests(self):
        self.assertEqual(table_of(5, 1, 3, [[-1, -6, 10 ** 39]]), (1, 3, ((4, 4, 0),)))
        self.assertEqual(table_of(2, 1, 3, [[-1, -2, 3]]), (1, 3, ((1, 0, 1),)))
        self.assertEqual(table_of(7, 1, 3, [[-1, 7, 50]]), (1, 3, ((6, 0, 1),)))
        self.assertEqual(table_of(3, 1, 3, [[-1, -3, 5]]), (1, 3, ((2, 0, 2),)))


class TestMaking(unittest.TestCase):
    def refused(self, kind, *asked):
        with self.assertRaises(SplitError) as caught:
            table_of(*asked)
        self.assertIs(type(caught.exception), kind, asked)

    def test_ordinary_tables(self):
        for p in PRIMES:
            for high, wide in SIZES:
                rows = [list(row) for row in some_rows("made", p, high, wide)]
                told = table_of(p, high, wide, rows)
                self.assertTrue(is_table(p, told))
                self.assertEqual(told, (high, wide, tuple(tuple(row) for row in rows)))

    def test_the_documents_own_tables(self):
        self.assertEqual(table_of(5, 2, 0, [[], []]), (2, 0, ((), ())))
        self.assertEqual(table_of(5, 0, 3, []), (0, 3, ()))
        self.assertEqual(table_of(2, 0, 0, []), (0, 0, ()))

    def test_thirty_is_the_most(self):
        self.assertEqual(table_of(3, 30, 30, [[4] * 30] * 30), (30, 30, ((1,) * 30,) * 30))
        self.assertEqual(table_of(3, 0, 30, []), (0, 30, ()))
        self.assertEqual(table_of(3, 30, 0, [[]] * 30), (30, 0, ((),) * 30))
        self.refused(NoTable, 3, 31, 1, [[1]] * 31)
        self.refused(NoTable, 3, 1, 31, [[1] * 31])
        self.refused(NoTable, 3, 0, 31, [])
        self.refused(NoTable, 3, 31, 0, [[]] * 31)

    def test_below_nought_is_no_size(self):
        self.refused(NoTable, 3, -1, 2, [])
        self.refused(NoTable, 3, 0, -1, [])
        self.refused(NoTable, 3, 1, -1, [[]])
        self.refused(NoTable, 3, 10 ** 39, 1, [[1]])
        self.refused(NoTable, 3, 1, -(10 ** 39), [[1]])

    def test_no_prime(self):
        for p in (-7, -2, -1, 0, 1, 4, 6, 8, 9, 11, 13, FORTY, -FORTY):
            self.refused(NoPrime, p, 1, 1, [[1]])

    def test_no_prime_ahead_of_no_table(self):
        for p in (0, 1, 4, 11):
            self.refused(NoPrime, p, 31, 1, [[1]])
            self.refused(NoPrime, p, 1, -1, [[]])
            self.refused(NoPrime, p, 2, 2, [[1]])

    def test_rows_that_do_not_fit(self):
        for p in PRIMES:
            self.refused(NoTable, p, 2, 2, [[1, 0]])
            self.refused(NoTable, p, 2, 2, [[1, 0], [0, 1], [1, 1]])
            self.refused(NoTable, p, 2, 2, [[1, 0], [0]])
            self.refused(NoTable, p, 2, 2, [[1], [0, 1]])
            self.refused(NoTable, p, 2, 2, [[1, 0], [0, 1, 1]])
            self.refused(NoTable, p, 2, 2, [[1, 0, 1], [0, 1]])
            self.refused(NoTable, p, 0, 2, [[]])
            self.refused(NoTable, p, 0, 2, [[1, 1]])
            self.refused(NoTable, p, 2, 0, [])
            self.refused(NoTable, p, 2, 0, [[], [], []])
            self.refused(NoTable, p, 2, 0, [[], [0]])

    def test_what_is_no_whole_number_makes_no_table(self):
        self.refused(NoTable, 5, 1, 1, [[True]])
        self.refused(NoTable, 5, 1, 1, [["1"]])
        self.refused(NoTable, 5, True, 1, [[1]])
        self.refused(NoTable, 5, 1, 1, [None])
        self.refused(NoTable, 5, 1, 1, "1")
        self.refused(NoPrime, None, 1, 1, [[1]])


class TestLed(unittest.TestCase):
    def test_each_load_by_the_documents_sum(self):
        for p in PRIMES:
            for high, wide in ((0, 2), (2, 0), (1, 1), (2, 3), (3, 2)):
                table = some_table("led", p, high, wide)
                for load in all_loads(p, wide):
                    self.assertEqual(led(p, table, load), plainly_led(p, table, load))

    def test_known_loads(self):
        table = (2, 3, ((1, 2, 3), (4, 0, 1)))
        self.assertEqual(led(5, table, (1, 1, 1)), (1, 0))
        self.assertEqual(led(5, table, (0, 2, 4)), (1, 4))

    def test_high_or_wide_nought(self):
        self.assertEqual(led(7, (2, 0, ((), ())), ()), (0, 0))
        self.assertEqual(led(7, (0, 3, ()), (1, 2, 3)), ())

    def test_any_high_and_wide(self):
        table = (70, 70, ((6,) * 70,) * 70)
        self.assertEqual(led(7, table, (6,) * 70), (0,) * 70)
        self.assertEqual(led(7, table, (1,) + (0,) * 69), (6,) * 70)

    def test_rests_are_told_whatever_the_numbers(self):
        self.assertEqual(led(5, (1, 2, ((-1, FORTY),)), (1, -1)), (0,))


class TestProducts(unittest.TestCase):
    def test_the_second_one_leads_ahead_of_the_first_one(self):
        for p in PRIMES:
            for high, middle, wide in ((2, 2, 2), (1, 3, 2), (3, 1, 3), (2, 0, 3), (0, 2, 2), (2, 2, 0)):
                one = some_table("one", p, high, middle)
                other = some_table("other", p, middle, wide)
                told = product(p, one, other)
                self.assertTrue(is_table(p, told))
                self.assertEqual(told[:2], (high, wide))
                for load in all_loads(p, wide):
                    expected = plainly_led(p, one, plainly_led(p, other, load))
                    self.assertEqual(plainly_led(p, told, load), expected)

    def test_known_products(self):
        one = (2, 2, ((0, 1), (0, 0)))
        other = (2, 2, ((1, 0), (0, 0)))
        self.assertEqual(product(3, one, other), (2, 2, ((0, 0), (0, 0))))
        self.assertEqual(product(3, other, one), one)
        self.assertEqual(product(5, (1, 2, ((3, 4),)), (2, 1, ((2,), (3,)))), (1, 1, ((3,),)))

    def test_nothing_between(self):
        self.assertEqual(product(5, (2, 0, ((), ())), (0, 3, ())), (2, 3, ((0, 0, 0), (0, 0, 0))))
        self.assertEqual(product(5, (0, 3, ()), (3, 0, ((), (), ()))), (0, 0, ()))
        self.assertEqual(product(5, (0, 3, ()), (3, 2, ((1, 1),) * 3)), (0, 2, ()))

    def test_same_table_changes_nothing(self):
        for p in PRIMES:
            for high, wide in SIZES:
                table = some_table("same", p, high, wide)
                self.assertEqual(product(p, same_table(high), table), table)
                self.assertEqual(product(p, table, same_table(wide)), table)

    def test_wider_than_thirty(self):
        table = some_table("wide", 7, 40, 45)
        over = turned_over(table)
        self.assertEqual(product(7, table, over)[:2], (40, 40))
        self.assertEqual(turned_over(product(7, table, over)), product(7, table, over))


class TestSums(unittest.TestCase):
    def test_number_by_number(self):
        for p in PRIMES:
            for high, wide in SIZES:
                one = some_table("one", p, high, wide)
                other = some_table("other", p, high, wide)
                told = added(p, one, other)
                self.assertTrue(is_table(p, told))
                self.assertEqual(told[:2], (high, wide))
                for i in range(high):
                    for j in range(wide):
                        self.assertEqual(told[2][i][j], (one[2][i][j] + other[2][i][j]) % p)

    def test_known_sums(self):
        self.assertEqual(added(5, (1, 2, ((3, 4),)), (1, 2, ((4, 1),))), (1, 2, ((2, 0),)))
        self.assertEqual(added(5, (2, 0, ((), ())), (2, 0, ((), ()))), (2, 0, ((), ())))
        self.assertEqual(added(5, (0, 3, ()), (0, 3, ())), (0, 3, ()))

    def test_a_difference_with_the_other_table_added_is_the_one(self):
        for p in PRIMES:
            for high, wide in SIZES:
                one, other = some_table("one", p, high, wide), some_table("other", p, high, wide)
                told = less(p, one, other)
                self.assertTrue(is_table(p, told))
                self.assertEqual(added(p, told, other), one)
        self.assertEqual(less(5, (1, 2, ((3, 4),)), (1, 2, ((4, 1),))), (1, 2, ((4, 3),)))

    def test_noughts_change_nothing(self):
        table = some_table("noughts", 7, 3, 4)
        self.assertEqual(added(7, table, nought_table(3, 4)), table)


class TestShapes(unittest.TestCase):
    def test_turned_over(self):
        self.assertEqual(turned_over((2, 3, ((1, 2, 3), (4, 5, 6)))), (3, 2, ((1, 4), (2, 5), (3, 6))))
        self.assertEqual(turned_over((2, 0, ((), ()))), (0, 2, ()))
        self.assertEqual(turned_over((0, 3, ())), (3, 0, ((), (), ())))
        self.assertEqual(turned_over((0, 0, ())), (0, 0, ()))

    def test_turned_over_twice(self):
        for high, wide in SIZES + ((31, 40),):
            table = some_table("over", 7, high, wide)
            self.assertEqual(turned_over(turned_over(table)), table)

    def test_same_table(self):
        self.assertEqual(same_table(0), (0, 0, ()))
        self.assertEqual(same_table(1), (1, 1, ((1,),)))
        self.assertEqual(same_table(3), (3, 3, ((1, 0, 0), (0, 1, 0), (0, 0, 1))))
        self.assertTrue(is_table(2, same_table(40)))
        for p in PRIMES:
            for load in all_loads(p, 3):
                self.assertEqual(plainly_led(p, same_table(3), load), load)

    def test_nought_table(self):
        self.assertEqual(nought_table(2, 3), (2, 3, ((0, 0, 0), (0, 0, 0))))
        self.assertEqual(nought_table(2, 0), (2, 0, ((), ())))
        self.assertEqual(nought_table(0, 3), (0, 3, ()))
        self.assertTrue(is_table(2, nought_table(31, 40)))


class TestHanding(unittest.TestCase):
    def test_what_is_handed_in_stays(self):
        rows = [[-1, 8], [FORTY, 3]]
        table_of(5, 2, 2, rows)
        self.assertEqual(rows, [[-1, 8], [FORTY, 3]])

    def test_what_is_changed_later_changes_nothing(self):
        rows = [[1, 2], [3, 4]]
        told = table_of(5, 2, 2, rows)
        rows[0][0] = 4
        rows.append([1, 1])
        self.assertEqual(told, (2, 2, ((1, 2), (3, 4))))

    def test_equal_things_are_answered_equally(self):
        one = some_table("one", 7, 3, 3)
        other = some_table("other", 7, 3, 3)
        for asked in (product, added):
            self.assertEqual(asked(7, one, other), asked(7, one, other))

    def test_very_large_numbers_are_told_as_rests(self):
        one = (1, 2, ((FORTY, -FORTY),))
        other = (2, 1, ((-FORTY,), (FORTY,)))
        self.assertTrue(is_table(7, product(7, one, other)))
        self.assertEqual(product(7, one, other), (1, 1, ((-2 * FORTY * FORTY % 7,),)))
        self.assertEqual(added(7, one, one), (1, 2, ((2 * FORTY % 7, -2 * FORTY % 7),)))

    def test_names_of_the_arguments(self):
        asked = {
            "inverse": ["p", "x"], "table_of": ["p", "high", "wide", "rows"],
            "led": ["p", "table", "load"], "product": ["p", "one", "other"],
            "added": ["p", "one", "other"], "turned_over": ["table"],
            "same_table": ["many"], "nought_table": ["high", "wide"],
        }
        for name, arguments in asked.items():
            self.assertEqual(list(inspect.signature(getattr(tables, name)).parameters), arguments)


if __name__ == "__main__":
    unittest.main()
