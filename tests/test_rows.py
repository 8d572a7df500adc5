"""Points 10, 11 and 12, and point 2 for rows."""

import copy
import inspect
import itertools
import unittest

from barsplit import rows
from barsplit.rows import in_turns, one_kind, row_of, ways_of
from tests.helpers import (
    FORTY, PRIMES, Refusing, all_kinds, all_loads, is_row, plainly_led, plainly_product, rooms_of, some_row,
    some_rows_of_rooms, some_table, some_turns, some_widths)


def handed_of(row):
    """The prime, widths and pairs of which a row is made, as lists."""
    p, widths, arrows = row
    return p, list(widths), [(way, [list(line) for line in table[2]]) for way, table in arrows]


class TestMaking(Refusing, unittest.TestCase):
    def test_each_kind_of_each_prime(self):
        for p in PRIMES:
            for row in some_rows_of_rooms(p):
                told = row_of(*handed_of(row))
                self.assertTrue(is_row(told), row)
                self.assertEqual(told, row)

    def test_numbers_are_told_as_their_rests(self):
        for p in PRIMES:
            for row in some_rows_of_rooms(p, 4):
                _, widths, arrows = handed_of(row)
                far = [(way, [[x - p * FORTY if (i + j) % 2 else x + p * 3 for j, x in enumerate(line)]
                              for i, line in enumerate(lines)]) for way, lines in arrows]
                self.assertEqual(row_of(p, widths, far), row)

    def test_known_rows(self):
        self.assertEqual(row_of(5, [2], []), (5, (2,), ()))
        self.assertEqual(row_of(2, [0], []), (2, (0,), ()))
        self.assertEqual(
            row_of(5, [2, 3, 0], [("r", [[1, 0], [0, -1], [5, 10]]), ("l", [[], [], []])]),
            (5, (2, 3, 0), (("r", (3, 2, ((1, 0), (0, 4), (0, 0)))), ("l", (3, 0, ((), (), ()))))))
        self.assertEqual(
            row_of(3, [1, 2], [("l", [[4, 5]])]), (3, (1, 2), (("l", (1, 2, ((1, 2),))),)))
        self.assertEqual(
            row_of(3, [1, 2], [("r", [[4], [5]])]), (3, (1, 2), (("r", (2, 1, ((1,), (2,)))),)))

    def test_a_table_leads_from_its_beginning_to_its_end(self):
        for p in PRIMES:
            for way in "rl":
                widths = [1, 3]
                begin, end = rooms_of(0, way)
                for high, wide in itertools.product(range(5), repeat=2):
                    lines = [[1] * wide for _ in range(high)]
                    if (high, wide) == (widths[end], widths[begin]):
                        self.assertEqual(row_of(p, widths, [(way, lines)])[2][0][1][:2], (high, wide))
                    else:
                        self.refused("NoArrow", {"at": 0}, row_of, p, widths, [(way, lines)])

    def test_the_most_and_the_least(self):
        self.assertEqual(row_of(7, [30], []), (7, (30,), ()))
        lines = [[6] * 5 for _ in range(5)]
        self.assertTrue(is_row(row_of(7, [5] * 6, [("r", lines), ("l", lines)] * 2 + [("l", lines)])))
        self.assertEqual(row_of(7, [0] * 6, [("r", [])] * 5), (7, (0,) * 6, (("r", (0, 0, ())),) * 5))
        self.assertEqual(row_of(7, [0, 30], [("r", [[]] * 30)])[2], (("r", (30, 0, ((),) * 30)),))
        self.assertEqual(row_of(7, [0, 30], [("l", [])])[2], (("l", (0, 30, ())),))

    def test_what_was_told_may_be_handed_in_again(self):
        for p in PRIMES:
            for row in some_rows_of_rooms(p, 4):
                pairs = [(way, table[2]) for way, table in row[2]]
                self.assertEqual(row_of(row[0], row[1], tuple(pairs)), row)


class TestRefusals(Refusing, unittest.TestCase):
    def test_no_prime(self):
        for p in (-7, -2, -1, 0, 1, 4, 6, 8, 9, 11, FORTY, -FORTY):
            self.refused("NoPrime", {}, row_of, p, [1], [])

    def test_no_widths(self):
        for p in PRIMES:
            for widths in ([], [1] * 7, [0] * 7, [0] * 60, [-1], [1, -1], [-1, 1], [31], [30, 1], [15, 0, 16],
                           [6, 5, 5, 5, 5, 5], [40, -20], [FORTY], [-FORTY], [FORTY, -FORTY]):
                pairs = [("r", [])] * (len(widths) - 1)
                self.refused("NoWidths", {}, row_of, p, widths, pairs)

    def test_no_row(self):
        for p in PRIMES:
            for many in range(1, 7):
                for pairs in range(8):
                    handed = (p, [0] * many, [("r", [])] * pairs)
                    if pairs == many - 1:
                        self.assertTrue(is_row(row_of(*handed)))
                    else:
                        self.refused("NoRow", {}, row_of, *handed)

    def test_no_arrow_for_another_way(self):
        for way in ("", "R", "L", "rl", "rr", "lr", "x", " ", "r ", "right", ">", "-"):
            self.refused("NoArrow", {"at": 0}, row_of, 5, [1, 1], [(way, [[1]])])

    def test_no_arrow_for_rows_that_do_not_fit(self):
        for lines in ([], [[1, 0]], [[1, 0], [0, 1]], [[1, 0], [0]], [[1], [0, 1], [1, 1]],
                      [[1, 0], [0, 1], [1]], [[1, 0], [0, 1], [1, 1, 1]], [[1, 0], [0, 1], [1, 1], [0, 0]],
                      [[1, 0, 0], [0, 1, 0]], [[], [], []]):
            self.refused("NoArrow", {"at": 0}, row_of, 5, [2, 3], [("r", lines)])
            self.refused("NoArrow", {"at": 0}, row_of, 5, [3, 2], [("l", lines)])

    def test_no_arrow_where_a_width_is_nought(self):
        for lines in ([[]], [[1]], [[1, 1]], [[], []]):
            self.refused("NoArrow", {"at": 0}, row_of, 5, [2, 0], [("r", lines)])
        for lines in ([], [[]], [[], [], []], [[0], []], [[0], [0]]):
            self.refused("NoArrow", {"at": 0}, row_of, 5, [0, 2], [("r", lines)])

    def test_the_first_wrong_pair_is_told(self):
        for p in PRIMES:
            for ways in all_kinds():
                row = some_row("first", p, ways, some_widths("first", len(ways) + 1))
                _, widths, pairs = handed_of(row)
                for k in range(len(pairs)):
                    way, lines = pairs[k]
                    for wrong in (("x", lines), (way, lines + [[1]]), ("", None)):
                        self.refused("NoArrow", {"at": k}, row_of, p, widths, pairs[:k] + [wrong] + pairs[k + 1:])
                        behind = [("x", [])] * (len(pairs) - k - 1)
                        self.refused("NoArrow", {"at": k}, row_of, p, widths, pairs[:k] + [wrong] + behind)

    def test_a_way_and_rows_count_alike(self):
        pairs = [("r", [[1]]), ("r", [[1, 1]]), ("x", [[1]])]
        self.refused("NoArrow", {"at": 1}, row_of, 3, [1] * 4, pairs)
        pairs = [("r", [[1]]), ("x", [[1]]), ("r", [[1, 1]])]
        self.refused("NoArrow", {"at": 1}, row_of, 3, [1] * 4, pairs)

    def test_the_order_of_the_refusals(self):
        self.refused("NoPrime", {}, row_of, 4, [], [("x", [])])
        self.refused("NoPrime", {}, row_of, 4, [31], [])
        self.refused("NoPrime", {}, row_of, 4, [1], [("x", [])])
        self.refused("NoPrime", {}, row_of, 4, [1, 1], [("x", [])])
        self.refused("NoWidths", {}, row_of, 5, [], [("x", [])])
        self.refused("NoWidths", {}, row_of, 5, [], [])
        self.refused("NoWidths", {}, row_of, 5, [1, -1], [])
        self.refused("NoWidths", {}, row_of, 5, [30, 1], [("x", [])])
        self.refused("NoWidths", {}, row_of, 5, [1] * 7, [])
        self.refused("NoRow", {}, row_of, 5, [1, 1], [("x", []), ("x", [])])
        self.refused("NoRow", {}, row_of, 5, [1], [("x", [])])
        self.refused("NoRow", {}, row_of, 5, [1, 1, 1], [("x", [])])

    def test_other_kinds_are_refused_where_a_refusal_is_told(self):
        self.refused("NoPrime", {}, row_of, "5", [1], [])
        self.refused("NoPrime", {}, row_of, True, [1], [])
        self.refused("NoWidths", {}, row_of, 5, [True], [])
        self.refused("NoWidths", {}, row_of, 5, ["1"], [])
        self.refused("NoWidths", {}, row_of, 5, None, [])
        self.refused("NoRow", {}, row_of, 5, [1], None)
        self.refused("NoArrow", {"at": 0}, row_of, 5, [1, 1], ["r1"])
        self.refused("NoArrow", {"at": 0}, row_of, 5, [1, 1], [("r",)])
        self.refused("NoArrow", {"at": 0}, row_of, 5, [1, 1], [("r", [[1]], 1)])
        self.refused("NoArrow", {"at": 0}, row_of, 5, [1, 1], [(1, [[1]])])
        self.refused("NoArrow", {"at": 0}, row_of, 5, [1, 1], [("r", [[True]])])


class TestKinds(unittest.TestCase):
    def test_the_ways_are_the_text_of_the_arrows_ways(self):
        for p in PRIMES:
            for ways in all_kinds():
                told = ways_of(some_row("ways", p, ways, some_widths(ways, len(ways) + 1)))
                self.assertIs(type(told), str)
                self.assertEqual(told, ways)

    def test_one_kind_is_the_same_prime_and_the_same_ways(self):
        kinds = list(itertools.product(PRIMES, all_kinds(4)))
        for (p, ways), (q, others) in itertools.product(kinds, repeat=2):
            one = some_row("one", p, ways, some_widths("one", len(ways) + 1))
            other = some_row("other", q, others, some_widths("other", len(others) + 1))
            self.assertIs(one_kind(one, other), (p, ways) == (q, others))

    def test_known_kinds(self):
        self.assertIs(one_kind((5, (2,), ()), (5, (0,), ())), True)
        self.assertIs(one_kind((5, (2,), ()), (7, (2,), ())), False)
        self.assertIs(one_kind((5, (2,), ()), (5, (0, 0), (("r", (0, 0, ())),))), False)
        self.assertIs(
            one_kind((5, (0, 0), (("l", (0, 0, ())),)), (5, (0, 0), (("r", (0, 0, ())),))), False)


class TestTurns(unittest.TestCase):
    def test_prime_widths_and_ways_stay(self):
        for p in PRIMES:
            for row in some_rows_of_rooms(p):
                told = in_turns(row, *some_turns("stay", row))
                self.assertTrue(is_row(told), row)
                self.assertEqual((told[0], told[1], ways_of(told)), (p, row[1], ways_of(row)))

    def test_turn_of_the_end_times_table_times_back_of_the_beginning(self):
        for p in PRIMES:
            for row in some_rows_of_rooms(p):
                # The backs are no backs here, so that each stands where the document says.
                turns = [some_table(f"turn {k}", p, width, width) for k, width in enumerate(row[1])]
                backs = [some_table(f"back {k}", p, width, width) for k, width in enumerate(row[1])]
                told = in_turns(row, turns, backs)
                self.assertEqual(len(told[2]), len(row[2]))
                for k, (way, table) in enumerate(row[2]):
                    begin, end = rooms_of(k, way)
                    asked = plainly_product(p, plainly_product(p, turns[end], table), backs[begin])
                    self.assertEqual(told[2][k], (way, asked))

    def test_turned_loads_are_led_to_turned_loads(self):
        for p in (2, 3):
            for row in some_rows_of_rooms(p, 4):
                turns, backs = some_turns("led", row)
                told = in_turns(row, turns, backs)
                for k, (way, table) in enumerate(row[2]):
                    begin, end = rooms_of(k, way)
                    for load in all_loads(p, row[1][begin]):
                        here = plainly_led(p, told[2][k][1], plainly_led(p, turns[begin], load))
                        self.assertEqual(here, plainly_led(p, turns[end], plainly_led(p, table, load)))

    def test_turned_back(self):
        for p in PRIMES:
            for row in some_rows_of_rooms(p):
                turns, backs = some_turns("back", row)
                self.assertEqual(in_turns(in_turns(row, turns, backs), backs, turns), row)

    def test_known_turns(self):
        row = (5, (1, 2), (("r", (2, 1, ((1,), (2,)))),))
        turns = [(1, 1, ((3,),)), (2, 2, ((0, 1), (1, 0)))]
        backs = [(1, 1, ((2,),)), (2, 2, ((0, 1), (1, 0)))]
        self.assertEqual(in_turns(row, turns, backs), (5, (1, 2), (("r", (2, 1, ((4,), (2,)))),)))
        row = (5, (1, 2), (("l", (1, 2, ((1, 2),))),))
        self.assertEqual(in_turns(row, turns, backs), (5, (1, 2), (("l", (1, 2, ((1, 3),))),)))

    def test_a_row_of_one_room(self):
        for p in PRIMES:
            for width in range(4):
                row = (p, (width,), ())
                self.assertEqual(in_turns(row, *some_turns("one", row)), row)


class TestHanding(unittest.TestCase):
    def test_what_is_handed_in_stays(self):
        widths = [2, 1, 0]
        pairs = [["r", [[-1, FORTY]]], ("l", [[]])]
        kept = copy.deepcopy((widths, pairs))
        row_of(5, widths, pairs)
        self.assertEqual((widths, pairs), kept)

    def test_what_is_refused_stays(self):
        widths = [2, 1, 0]
        pairs = [["r", [[-1, 7]]], ("l", [[], []])]
        kept = copy.deepcopy((widths, pairs))
        with self.assertRaises(ValueError):
            row_of(5, widths, pairs)
        self.assertEqual((widths, pairs), kept)

    def test_what_is_changed_later_changes_nothing(self):
        widths = [2, 1]
        pairs = [["r", [[1, 2]]]]
        told = row_of(5, widths, pairs)
        widths[0] = 9
        widths.append(1)
        pairs[0][1][0][0] = 4
        pairs[0][1].append([1, 1])
        pairs[0][0] = "l"
        pairs.append(("r", []))
        self.assertEqual(told, (5, (2, 1), (("r", (1, 2, ((1, 2),))),)))

    def test_turns_stay_and_may_be_changed_later(self):
        row = some_row("turns", 7, "rl", (2, 1, 2))
        turns, backs = some_turns("turns", row)
        kept = copy.deepcopy((row, turns, backs))
        told = in_turns(row, turns, backs)
        self.assertEqual((row, turns, backs), kept)
        turns.reverse()
        backs.clear()
        self.assertEqual(told, in_turns(*kept))

    def test_equal_things_are_answered_equally(self):
        for p in PRIMES:
            for row in some_rows_of_rooms(p, 3):
                handed = handed_of(row)
                self.assertEqual(row_of(*handed), row_of(*copy.deepcopy(handed)))
                turned = (row, *some_turns("equal", row))
                self.assertEqual(in_turns(*turned), in_turns(*copy.deepcopy(turned)))

    def test_names_of_the_arguments(self):
        asked = {
            "row_of": ["p", "widths", "arrows"], "ways_of": ["row"], "one_kind": ["one", "other"],
            "in_turns": ["row", "turns", "backs"],
        }
        for name, arguments in asked.items():
            self.assertEqual(list(inspect.signature(getattr(rows, name)).parameters), arguments)


if __name__ == "__main__":
    unittest.main()
