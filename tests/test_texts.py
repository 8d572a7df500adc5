"""Point 13, and point 2 for texts."""

import copy
import inspect
import itertools
import random
import re
import unittest

from barsplit import errors, texts
from barsplit.texts import row_read, row_text
from tests.helpers import (
    FORTY, PRIMES, Refusing, all_kinds, is_row, rooms_of, some_row, some_rows_of_rooms, some_widths)

OWN = "5: 2 -10/04/00> 3 <//- 0"
OWN_ROW = (5, (2, 3, 0), (("r", (3, 2, ((1, 0), (0, 4), (0, 0)))), ("l", (3, 0, ((), (), ())))))
# From the blank to the tilde, but the percent sign.
SIGNS = [chr(at) for at in range(32, 127) if at != 37]


def plainly_read(text):
    """Point 13 sentence by sentence: the row, or the name of the refusal and what it tells."""
    words = text.split(" ")
    for place, word in enumerate(words):
        form = r"(-[0-9/]*>|<[0-9/]*-)"
        if place == 0:
            form = r"[2357]:"
        elif place % 2:
            form = r"(0|[1-9]|[12][0-9]|30)"
        if not re.fullmatch(form, word):
            return ("NoText", {"at": place})
    if len(words) % 2:
        return ("NoText", {"at": len(words)})
    p = int(words[0][0])
    widths = tuple(int(word) for word in words[1::2])
    if len(widths) > 6 or sum(widths) > 30:
        return ("NoWidths", {})
    arrows = []
    for k, word in enumerate(words[2::2]):
        way = "r" if word[0] == "-" else "l"
        begin, end = rooms_of(k, way)
        high, wide = widths[end], widths[begin]
        # All signs that such a table can have, in their order.
        form = "/".join([f"[0-{p - 1}]{{{wide}}}"] * high)
        if not re.fullmatch(form, word[1:-1]):
            return ("NoArrow", {"at": k})
        figures = [int(sign) for sign in word[1:-1] if sign != "/"]
        lines = tuple(tuple(figures[i * wide:i * wide + wide]) for i in range(high))
        arrows.append((way, (high, wide, lines)))
    return (p, widths, tuple(arrows))


class TestWriting(unittest.TestCase):
    def test_the_documents_own_row(self):
        self.assertEqual(row_text(OWN_ROW), OWN)

    def test_known_texts(self):
        self.assertEqual(row_text((2, (0,), ())), "2: 0")
        self.assertEqual(row_text((7, (30,), ())), "7: 30")
        self.assertEqual(row_text((3, (1, 2), (("r", (2, 1, ((1,), (2,)))),))), "3: 1 -1/2> 2")
        self.assertEqual(row_text((3, (1, 2), (("l", (1, 2, ((1, 2),))),))), "3: 1 <12- 2")
        self.assertEqual(row_text((3, (0, 1), (("r", (1, 0, ((),))),))), "3: 0 -> 1")
        self.assertEqual(row_text((3, (0, 2), (("r", (2, 0, ((), ()))),))), "3: 0 -/> 2")
        self.assertEqual(row_text((3, (0, 2), (("l", (0, 2, ())),))), "3: 0 <- 2")
        self.assertEqual(row_text((3, (0, 0), (("l", (0, 0, ())),))), "3: 0 <- 0")

    def test_each_kind_of_each_prime(self):
        for p in PRIMES:
            for row in some_rows_of_rooms(p):
                told = row_text(row)
                self.assertIs(type(told), str)
                words = told.split(" ")
                self.assertEqual(len(words), 2 * len(row[1]))
                self.assertEqual(words[0], f"{p}:")
                self.assertEqual(words[1::2], [str(width) for width in row[1]])
                for word, (way, table) in zip(words[2::2], row[2]):
                    self.assertEqual(word[0] + word[-1], {"r": "->", "l": "<-"}[way])
                    lines = word[1:-1].split("/") if table[0] else []
                    self.assertEqual(lines, ["".join(map(str, line)) for line in table[2]])
                    if not table[0]:
                        self.assertEqual(len(word), 2)


class TestReading(unittest.TestCase):
    def test_the_documents_own_text(self):
        self.assertEqual(row_read(OWN), OWN_ROW)

    def test_written_and_read_and_written_again(self):
        for p in PRIMES:
            for row in some_rows_of_rooms(p):
                text = row_text(row)
                told = row_read(text)
                self.assertTrue(is_row(told), text)
                self.assertEqual(told, row)
                self.assertEqual(row_text(told), text)

    def test_a_table_without_signs(self):
        self.assertEqual(row_read("5: 0 -> 1"), (5, (0, 1), (("r", (1, 0, ((),))),)))
        self.assertEqual(row_read("5: 1 <- 0"), (5, (1, 0), (("l", (1, 0, ((),))),)))
        self.assertEqual(row_read("5: 3 -> 0"), (5, (3, 0), (("r", (0, 3, ())),)))
        self.assertEqual(row_read("5: 0 <- 3"), (5, (0, 3), (("l", (0, 3, ())),)))
        self.assertEqual(row_read("5: 0 -> 0"), (5, (0, 0), (("r", (0, 0, ())),)))
        self.assertEqual(row_read("5: 0 <- 0"), (5, (0, 0), (("l", (0, 0, ())),)))
        self.assertEqual(row_read("5: 0 -/> 2"), (5, (0, 2), (("r", (2, 0, ((), ()))),)))
        self.assertEqual(row_read("5: 2 </- 0"), (5, (2, 0), (("l", (2, 0, ((), ()))),)))

    def test_each_width_from_nought_to_thirty(self):
        for width in range(31):
            self.assertEqual(row_read(f"7: {width}"), (7, (width,), ()))

    def test_the_longest_tables(self):
        for p in PRIMES:
            row = some_row("long", p, "l", (15, 15))
            self.assertEqual(row_read(row_text(row)), row)
            row = some_row("long", p, "rlrlr", (5,) * 6)
            self.assertEqual(row_read(row_text(row)), row)


class TestNoText(Refusing, unittest.TestCase):
    def no_text(self, at, text):
        self.refused("NoText", {"at": at}, row_read, text)

    def test_no_words_and_words_without_signs(self):
        self.no_text(0, "")
        self.no_text(0, " ")
        self.no_text(0, " " + OWN)
        self.no_text(1, "5: ")
        self.no_text(1, "5:  2")
        self.no_text(2, "5: 2 ")
        self.no_text(6, OWN + " ")

    def test_a_blank_more(self):
        words = OWN.split(" ")
        for at in range(len(words) + 1):
            self.no_text(at, " ".join(words[:at] + [""] + words[at:]))

    def test_the_prime_and_its_colon(self):
        for word in ("5", ":", "5::", ":5", "4:", "0:", "1:", "6:", "9:", "11:", "05:", "+5:", "-5:", "5.:",
                     "57:", "25:", "five:", "5;", "2357:", str(FORTY) + ":"):
            self.no_text(0, word + " 2")

    def test_the_widths(self):
        for word in ("", "00", "01", "02", "030", "31", "99", "100", "-1", "-0", "+1", "1.", "1_0", "x", "1x",
                     ":", "->", "<-", "2:", str(FORTY), "-" + str(FORTY)):
            self.no_text(1, "5: " + word)
            self.no_text(3, "5: 1 -1> " + word)
            self.no_text(1, f"5: {word} -1> 1")

    def test_the_arrows(self):
        for word in ("", "-", "<", ">", "--", "<<", ">>", "<>", "><", "-1", "1>", "<1", "1-", "-1-", "<1>", ">1<",
                     "-x>", "-1,>", "-1>>", "--1>", "<-1-", "<1--", "<1>-", "-<1>", "->1", "-1>-", "1", "-1.0>",
                     "-+1>", "-1\\0>", "-_>", "-:>"):
            self.no_text(2, f"5: 1 {word} 1")

    def test_the_last_word_is_no_width(self):
        self.no_text(1, "5:")
        self.no_text(3, "5: 2 ->")
        self.no_text(3, "5: 2 <123/-")
        self.no_text(5, "5: 1 -1> 1 -1>")
        self.no_text(15, "5: " + "0 -> " * 6 + "0 <-")

    def test_a_word_left_out(self):
        words = OWN.split(" ")
        asked = (0, 1, 2, 3, 4, 5)
        for at, told in enumerate(asked):
            self.no_text(told, " ".join(words[:at] + words[at + 1:]))

    def test_a_word_doubled(self):
        words = OWN.split(" ")
        for at in range(len(words)):
            self.no_text(at + 1, " ".join(words[:at + 1] + words[at:]))

    def test_words_put_otherwise(self):
        words = OWN.split(" ")
        for one, other in itertools.combinations(range(len(words)), 2):
            put = list(words)
            put[one], put[other] = words[other], words[one]
            if one and (one - other) % 2 == 0:
                # Widths among widths and arrows among arrows keep the forms.
                self.refused("NoArrow", {"at": 0}, row_read, " ".join(put))
            else:
                self.no_text(one, " ".join(put))

    def test_the_first_wrong_word_is_told(self):
        for at in range(6):
            words = OWN.split(" ")
            words[at:] = ["?"] * (6 - at)
            self.no_text(at, " ".join(words))
            self.no_text(at, " ".join(words + ["?"]))

    def test_ahead_of_no_widths_and_no_arrow(self):
        self.no_text(8, "5: 20 -9> 20 -1> 1 <- 1 x 1")
        self.no_text(15, "5: " + "30 -9> " * 7 + "31")
        self.no_text(15, "5: 30" + " -9> 30" * 6 + " -9>")
        self.no_text(3, "5: 1 -9> 01")

    def test_signs_that_are_figures_elsewhere_and_other_blanks(self):
        self.no_text(1, "5: \u0663")
        self.no_text(1, "5: \u00b2")
        self.no_text(2, "5: 1 -\u0663> 1")
        self.no_text(0, "5:\t2")
        self.no_text(1, "5: 2\n")
        self.no_text(0, "\n5: 2")


class TestNoWidths(Refusing, unittest.TestCase):
    def test_more_than_six(self):
        for many in range(7, 30):
            self.refused("NoWidths", {}, row_read, "2: 0" + " -> 0" * (many - 1))

    def test_together_more_than_thirty(self):
        self.refused("NoWidths", {}, row_read, "2: 30 -1> 1")
        self.refused("NoWidths", {}, row_read, "2: 16 -> 0 <- 15")
        self.refused("NoWidths", {}, row_read, "2: 30 -> 30 -> 30 -> 30 -> 30 -> 30")
        self.refused("NoWidths", {}, row_read, "2: 6" + " <- 5" * 5)

    def test_ahead_of_no_arrow(self):
        self.refused("NoWidths", {}, row_read, "2: 30 -9//> 1")
        self.refused("NoWidths", {}, row_read, "2: 0" + " -9> 0" * 6)


class TestNoArrow(Refusing, unittest.TestCase):
    def no_arrow(self, at, text):
        self.refused("NoArrow", {"at": at}, row_read, text)

    def test_the_documents_own_text(self):
        self.no_arrow(0, "5: 2 <- 0")

    def test_strokes_stand_where_there_are_two_rows_or_more(self):
        self.no_arrow(0, "5: 0 -> 2")
        self.no_arrow(0, "5: 0 -//> 2")
        self.no_arrow(0, "5: 2 <//- 0")
        self.no_arrow(0, "5: 3 </- 0")
        self.no_arrow(0, "5: 30 <//- 0")
        self.no_arrow(0, "5: 0 -/> 1")
        self.no_arrow(0, "5: 0 -/> 0")
        self.no_arrow(0, "5: 2 -/> 0")

    def test_a_table_without_signs_that_should_have_some(self):
        self.no_arrow(0, "5: 1 -> 1")
        self.no_arrow(0, "5: 1 <- 1")
        self.no_arrow(0, "5: 2 -> 1")
        self.no_arrow(0, "5: 1 -> 2")

    def test_rows_that_do_not_fit(self):
        for signs in ("1", "1/2", "12", "12/3", "1/23", "12/34/", "/12/34", "12//34", "123/412", "12/34/12",
                      "1234", "/", "///"):
            self.no_arrow(0, f"5: 2 -{signs}> 2")
            self.no_arrow(0, f"5: 2 <{signs}- 2")
        self.no_arrow(0, "5: 0 -0> 0")
        self.no_arrow(0, "5: 0 -0> 1")
        self.no_arrow(0, "5: 1 -0> 0")
        self.no_arrow(0, "5: 2 -1/2> 1")
        self.no_arrow(0, "5: 2 <12- 1")

    def test_figures_that_are_no_rests(self):
        for p in PRIMES:
            for figure in range(10):
                if figure < p:
                    told = row_read(f"{p}: 1 -{figure}> 1")
                    self.assertEqual(told, (p, (1, 1), (("r", (1, 1, ((figure,),))),)))
                else:
                    self.no_arrow(0, f"{p}: 1 -{figure}> 1")
                    self.no_arrow(0, f"{p}: 1 <{figure}- 1")
                    self.no_arrow(0, f"{p}: 2 -00/0{figure}> 2")
                    self.no_arrow(1, f"{p}: 1 -1/1> 2 -0{figure}> 1")

    def test_the_first_arrow_with_either_fault_is_told(self):
        self.no_arrow(0, "5: 1 -9> 1 -11> 1")
        self.no_arrow(0, "5: 1 -11> 1 -9> 1")
        self.no_arrow(1, "5: 1 -1> 1 -9> 1 -11> 1 <1- 1")
        self.no_arrow(1, "5: 1 -1> 1 -11> 1 -9> 1 <1- 1")
        self.no_arrow(4, "5: 1 -1> 1 -1> 1 -1> 1 -1> 1 <5- 1")

    def test_the_faulty_arrow_of_each_kind(self):
        for p in PRIMES:
            for ways in all_kinds():
                row = some_row("faulty", p, ways, some_widths("faulty", len(ways) + 1))
                words = row_text(row).split(" ")
                for k in range(len(ways)):
                    word = words[2 * k + 2]
                    for wrong in (word[:-1] + "0" + word[-1], word[0] + "/" + word[1:], word[0] + "9" + word[2:]):
                        if "9" in wrong and len(word) == 2:
                            continue
                        put = words[:2 * k + 2] + [wrong] + words[2 * k + 3:]
                        self.no_arrow(k, " ".join(put))


class TestEveryOtherText(Refusing, unittest.TestCase):
    def looked_at(self, text):
        asked = plainly_read(text)
        if len(asked) == 2:
            self.refused(*asked, row_read, text)
            return
        told = row_read(text)
        self.assertEqual(told, asked)
        self.assertEqual(row_text(told), text)

    def test_one_sign_more_less_or_another(self):
        for text in (OWN, "2: 1 -1> 1", "7: 0 <- 3 -6/0> 2", "3: 10", "2: 30", "3: 2 <01/22- 2 -> 0 -> 1"):
            self.looked_at(text)
            for at in range(len(text) + 1):
                self.looked_at(text[:at] + text[at + 1:])
                for sign in SIGNS:
                    self.looked_at(text[:at] + sign + text[at:])
                    self.looked_at(text[:at] + sign + text[at + 1:])

    def test_texts_of_the_words_that_there_are(self):
        words = ["2:", "5:", "0", "1", "2", "30", "->", "<-", "-1>", "<1-", "-/>", "</-", "-4>", ""]
        for many in range(5):
            for put in itertools.product(words, repeat=many):
                self.looked_at(" ".join(put))

    def test_texts_of_the_right_forms(self):
        source = random.Random("forms")
        for _ in range(5000):
            words = [source.choice(["2:", "3:", "5:", "7:"]), str(source.randrange(3))]
            for _ in range(source.randrange(8)):
                signs = "".join(source.choice("001/") for _ in range(source.randrange(5)))
                words += [source.choice(["-{}>", "<{}-"]).format(signs), str(source.randrange(3))]
            self.looked_at(" ".join(words))

    def test_very_long_texts(self):
        for text in (" " * 600, "5" * 600, "5: " + "1" * 597, "5: 1 -" + "1" * 590 + "> 1", "5: 1 " + "-" * 595,
                     "5: 1 -" + "/" * 590 + "> 1", "2: 0" + " -> 0" * 119):
            self.looked_at(text)


class TestHanding(unittest.TestCase):
    def test_what_is_handed_in_stays_and_is_answered_the_same(self):
        for p in PRIMES:
            for row in some_rows_of_rooms(p, 4):
                kept = copy.deepcopy(row)
                text = row_text(row)
                self.assertEqual(row, kept)
                self.assertEqual(row_text(kept), text)
                self.assertEqual(row_read(text), row_read(text))

    def test_the_same_text_is_refused_the_same(self):
        for text in ("5: x", "5: 1 -5> 1"):
            told = []
            for _ in range(2):
                with self.assertRaises(errors.SplitError) as caught:
                    row_read(text)
                told.append((type(caught.exception), caught.exception.at))
            self.assertEqual(told[0], told[1])

    def test_names_of_the_arguments(self):
        for name, arguments in {"row_text": ["row"], "row_read": ["text"]}.items():
            self.assertEqual(list(inspect.signature(getattr(texts, name)).parameters), arguments)


if __name__ == "__main__":
    unittest.main()
