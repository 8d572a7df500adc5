"""Points 7, 8 and 9, and point 2 for spaces."""

import inspect
import itertools
import unittest

from barsplit import spaces
from barsplit.spaces import back_of, base_of, image, kernel, rank, solved
from barsplit.tables import nought_table, product, same_table, turned_over
from tests.helpers import (
    FORTY, PRIMES, all_loads, is_base, is_table, plainly_led, some_rows, some_table, span)

SIZES = ((0, 0), (0, 2), (2, 0), (1, 1), (1, 3), (3, 1), (2, 2), (2, 3), (3, 2), (3, 3))


def leads_of(base):
    return [next(k for k, x in enumerate(load) if x) for load in base]


def some_tables(p):
    """Tables of several sizes, those of small rank among them."""
    for high, wide in SIZES:
        for seed in range(3):
            yield some_table(seed, p, high, wide)
        yield nought_table(high, wide)
        if high > 1 and wide > 0:
            row = some_rows("one row", p, 1, wide)[0]
            yield (high, wide, tuple(tuple(k * x % p for x in row) for k in range(1, high + 1)))


class TestBases(unittest.TestCase):
    def test_each_space_of_some_loads(self):
        for p in PRIMES:
            for many, long in ((0, 3), (1, 3), (2, 3), (3, 3), (5, 3), (4, 2), (3, 1)):
                for seed in range(4):
                    loads = list(some_rows(seed, p, many, long))
                    told = base_of(p, long, loads)
                    self.assertTrue(is_base(p, long, told), (p, loads, told))
                    self.assertEqual(span(p, long, told), span(p, long, loads))

    def test_each_pair_of_short_loads(self):
        for p in (2, 3):
            for one, other in itertools.product(all_loads(p, 3), repeat=2):
                told = base_of(p, 3, [one, other])
                self.assertTrue(is_base(p, 3, told), (one, other, told))
                self.assertEqual(span(p, 3, told), span(p, 3, [one, other]))

    def test_the_same_space_has_the_same_base(self):
        for p in PRIMES:
            loads = list(some_rows("same", p, 3, 4))
            mixed = [tuple((p - 1) * x % p for x in loads[2]),
                     tuple((x + y) % p for x, y in zip(loads[1], loads[2])),
                     tuple((x + y) % p for x, y in zip(loads[0], loads[1])),
                     loads[1]]
            self.assertEqual(base_of(p, 4, mixed), base_of(p, 4, loads))

    def test_the_space_of_noughts_alone(self):
        for p in PRIMES:
            self.assertEqual(base_of(p, 3, [(0, 0, 0)]), [])
            self.assertEqual(base_of(p, 3, [(0, 0, 0), (0, 0, 0)]), [])
            self.assertEqual(base_of(p, 3, []), [])

    def test_loads_of_length_nought(self):
        for p in PRIMES:
            self.assertEqual(base_of(p, 0, []), [])
            self.assertEqual(base_of(p, 0, [()]), [])
            self.assertEqual(base_of(p, 0, [(), (), ()]), [])

    def test_known_bases(self):
        self.assertEqual(base_of(5, 3, [(0, 2, 4), (3, 1, 1)]), [(1, 0, 3), (0, 1, 2)])
        self.assertEqual(base_of(2, 3, [(1, 1, 0), (1, 1, 1)]), [(1, 1, 0), (0, 0, 1)])
        self.assertEqual(base_of(7, 2, [(3, 5)]), [(1, 4)])
        self.assertEqual(base_of(3, 2, [(2, 1), (1, 2)]), [(1, 2)])

    def test_a_base_is_its_own_base(self):
        for p in PRIMES:
            base = base_of(p, 5, list(some_rows("again", p, 3, 5)))
            self.assertEqual(base_of(p, 5, base), base)

    def test_numbers_beyond_the_rests(self):
        self.assertEqual(base_of(5, 2, [(-2, FORTY)]), base_of(5, 2, [(3, FORTY % 5)]))
        self.assertEqual(base_of(5, 2, [(5, -10)]), [])

    def test_sixty_loads_and_more_than_thirty_numbers(self):
        told = base_of(7, 40, list(some_rows("many", 7, 60, 40)))
        self.assertTrue(is_base(7, 40, told))
        self.assertEqual(base_of(7, 40, told), told)


class TestKernels(unittest.TestCase):
    def test_all_loads_that_are_led_to_noughts(self):
        for p in PRIMES:
            for table in some_tables(p):
                high, wide, _ = table
                told = kernel(p, table)
                self.assertTrue(is_base(p, wide, told), (table, told))
                noughts = {load for load in all_loads(p, wide) if not any(plainly_led(p, table, load))}
                self.assertEqual(span(p, wide, told), noughts)

    def test_known_kernels(self):
        self.assertEqual(kernel(5, (1, 3, ((1, 2, 3),))), [(1, 0, 3), (0, 1, 1)])
        self.assertEqual(kernel(2, (2, 2, ((1, 1), (1, 1)))), [(1, 1)])

    def test_high_or_wide_nought(self):
        for p in PRIMES:
            self.assertEqual(kernel(p, (0, 3, ())), [(1, 0, 0), (0, 1, 0), (0, 0, 1)])
            self.assertEqual(kernel(p, (2, 0, ((), ()))), [])
            self.assertEqual(kernel(p, (0, 0, ())), [])
            self.assertEqual(kernel(p, same_table(3)), [])


class TestImages(unittest.TestCase):
    def test_all_loads_to_which_it_leads(self):
        for p in PRIMES:
            for table in some_tables(p):
                high, wide, _ = table
                told = image(p, table)
                self.assertTrue(is_base(p, high, told), (table, told))
                reached = {plainly_led(p, table, load) for load in all_loads(p, wide)}
                self.assertEqual(span(p, high, told), reached)

    def test_rank_is_the_size_of_the_image(self):
        for p in PRIMES:
            for table in some_tables(p):
                told = rank(p, table)
                reached = {plainly_led(p, table, load) for load in all_loads(p, table[1])}
                self.assertIs(type(told), int)
                self.assertEqual(p ** told, len(reached))
                self.assertEqual(told + len(kernel(p, table)), table[1])

    def test_known_images_and_ranks(self):
        self.assertEqual(image(5, (3, 2, ((0, 0), (2, 4), (1, 2)))), [(0, 1, 3)])
        self.assertEqual(rank(5, (3, 2, ((0, 0), (2, 4), (1, 2)))), 1)
        # The same rows have one rank by 5 and another by 3.
        self.assertEqual(rank(5, (2, 2, ((1, 2), (2, 1)))), 2)
        self.assertEqual(rank(3, (2, 2, ((1, 2), (2, 1)))), 1)

    def test_high_or_wide_nought(self):
        for p in PRIMES:
            self.assertEqual(image(p, (0, 3, ())), [])
            self.assertEqual(image(p, (2, 0, ((), ()))), [])
            self.assertEqual(rank(p, (0, 3, ())), 0)
            self.assertEqual(rank(p, (2, 0, ((), ()))), 0)
            self.assertIs(type(rank(p, (0, 0, ()))), int)


class TestSolved(unittest.TestCase):
    def test_each_load_of_each_table(self):
        for p in PRIMES:
            for table in some_tables(p):
                high, wide, rows = table
                leads = leads_of(base_of(p, wide, list(rows)))
                answers = {}
                for load in all_loads(p, wide):
                    if all(x == 0 for k, x in enumerate(load) if k not in leads):
                        answers[plainly_led(p, table, load)] = load
                for load in all_loads(p, high):
                    self.assertEqual(solved(p, table, load), answers.get(load), (p, table, load))

    def test_known_answers(self):
        table = (2, 3, ((0, 2, 4), (0, 0, 1)))
        self.assertEqual(solved(5, table, (1, 3)), (0, 2, 3))
        self.assertEqual(solved(5, (1, 3, ((1, 2, 3),)), (4,)), (4, 0, 0))

    def test_a_load_to_which_it_does_not_lead(self):
        self.assertIsNone(solved(5, (2, 2, ((1, 1), (1, 1))), (1, 2)))
        self.assertIsNone(solved(2, (2, 2, ((0, 0), (0, 0))), (0, 1)))

    def test_high_or_wide_nought(self):
        for p in PRIMES:
            self.assertEqual(solved(p, (0, 3, ()), ()), (0, 0, 0))
            self.assertEqual(solved(p, (0, 0, ()), ()), ())
            self.assertEqual(solved(p, (2, 0, ((), ())), (0, 0)), ())
            self.assertIsNone(solved(p, (2, 0, ((), ())), (0, 1)))

    def test_numbers_beyond_the_rests(self):
        self.assertEqual(solved(5, (1, 1, ((-1,),)), (FORTY,)), (-FORTY % 5,))

    def test_a_large_one(self):
        table = some_table("large", 7, 60, 80)
        load = some_rows("led", 7, 1, 80)[0]
        told = solved(7, table, plainly_led(7, table, load))
        self.assertEqual(plainly_led(7, table, told), plainly_led(7, table, load))


class TestBacks(unittest.TestCase):
    def holds(self, p, table):
        """Looks at the told back, or at its want, by walking all loads."""
        many = table[0]
        told = back_of(p, table)
        if len({plainly_led(p, table, load) for load in all_loads(p, many)}) < p ** many:
            self.assertIsNone(told, (p, table))
            return
        self.assertTrue(is_table(p, told), (p, table, told))
        for load in all_loads(p, many):
            self.assertEqual(plainly_led(p, told, plainly_led(p, table, load)), load)
            self.assertEqual(plainly_led(p, table, plainly_led(p, told, load)), load)

    def test_each_small_table(self):
        for p in PRIMES:
            for x in range(p):
                self.holds(p, (1, 1, ((x,),)))
        for p in (2, 3):
            for a, b, c, d in all_loads(p, 4):
                self.holds(p, (2, 2, ((a, b), (c, d))))

    def test_some_larger_ones(self):
        for p in PRIMES:
            for seed in range(8):
                self.holds(p, some_table(seed, p, 2, 2))
                self.holds(p, some_table(seed, p, 3, 3))

    def test_known_backs(self):
        self.assertEqual(back_of(5, (2, 2, ((0, 2), (1, 3)))), (2, 2, ((1, 1), (3, 0))))
        self.assertEqual(back_of(7, (1, 1, ((3,),))), (1, 1, ((5,),)))
        self.assertEqual(back_of(2, (0, 0, ())), (0, 0, ()))

    def test_without_a_back(self):
        for p in PRIMES:
            self.assertIsNone(back_of(p, (1, 1, ((0,),))))
            self.assertIsNone(back_of(p, (2, 2, ((1, 1), (1, 1)))))
            self.assertIsNone(back_of(p, (2, 2, ((0, 1), (0, 1)))))
            self.assertIsNone(back_of(p, nought_table(3, 3)))

    def test_high_and_wide_unlike(self):
        for p in PRIMES:
            self.assertIsNone(back_of(p, (2, 3, ((1, 0, 0), (0, 1, 0)))))
            self.assertIsNone(back_of(p, (3, 2, ((1, 0), (0, 1), (0, 0)))))
            self.assertIsNone(back_of(p, (2, 0, ((), ()))))
            self.assertIsNone(back_of(p, (0, 3, ())))

    def test_higher_than_thirty(self):
        for p in PRIMES:
            rows = some_rows("lower", p, 45, 45)
            lower = (45, 45, tuple(tuple(rows[i][j] if j < i else int(i == j) for j in range(45))
                                   for i in range(45)))
            table = product(p, lower, turned_over(lower))
            told = back_of(p, table)
            self.assertEqual(product(p, table, told), same_table(45))
            self.assertEqual(product(p, told, table), same_table(45))


class TestHanding(unittest.TestCase):
    def test_what_is_handed_in_stays(self):
        loads = [(0, 2, 4), (3, 1, -1), (FORTY, 0, 0)]
        kept = list(loads)
        base_of(5, 3, loads)
        self.assertEqual(loads, kept)

    def test_a_base_handed_in_is_not_the_one_told(self):
        base = [(1, 0), (0, 1)]
        told = base_of(5, 2, base)
        self.assertIsNot(told, base)
        told.append((1, 1))
        self.assertEqual(base, [(1, 0), (0, 1)])

    def test_a_told_list_that_is_changed_changes_no_later_answer(self):
        table = (2, 3, ((1, 2, 3), (2, 4, 1)))
        asked = (
            lambda: base_of(5, 2, [(1, 2)]), lambda: base_of(5, 2, []),
            lambda: kernel(5, table), lambda: kernel(5, same_table(2)),
            lambda: image(5, table), lambda: image(5, nought_table(2, 2)),
        )
        for ask in asked:
            first = ask()
            kept = list(first)
            first.append((4, 4))
            first.reverse()
            self.assertEqual(ask(), kept)
            self.assertIsNot(ask(), ask())

    def test_equal_things_are_answered_equally(self):
        table = some_table("equal", 7, 3, 3)
        for ask in (kernel, image, rank, back_of):
            self.assertEqual(ask(7, table), ask(7, table))
        self.assertEqual(solved(7, table, (1, 2, 3)), solved(7, table, (1, 2, 3)))

    def test_whole_numbers_are_told(self):
        table = (2, 2, ((1, 0), (0, 0)))
        self.assertIs(type(rank(2, table)), int)
        told = list(solved(2, table, (1, 0))) + [x for load in kernel(2, table) + image(2, table) for x in load]
        for x in told:
            self.assertIs(type(x), int)

    def test_very_large_numbers_of_both_signs(self):
        large = (2, 2, ((FORTY, -FORTY), (-1, 10 ** 39 + 3)))
        for p in PRIMES:
            small = (2, 2, tuple(tuple(x % p for x in row) for row in large[2]))
            for ask in (kernel, image, rank, back_of):
                self.assertEqual(ask(p, large), ask(p, small))

    def test_names_of_the_arguments(self):
        asked = {
            "base_of": ["p", "long", "loads"], "kernel": ["p", "table"], "image": ["p", "table"],
            "rank": ["p", "table"], "solved": ["p", "table", "load"], "back_of": ["p", "table"],
        }
        for name, arguments in asked.items():
            self.assertEqual(list(inspect.signature(getattr(spaces, name)).parameters), arguments)


if __name__ == "__main__":
    unittest.main()
