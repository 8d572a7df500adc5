"""Points 34 and 35, and point 2 for the desk."""

import inspect
import itertools
import random
import unittest

from barsplit.about import turned_about
from barsplit.alike import alike
from barsplit.barring import barred
from barsplit.bars import bar_row
from barsplit.desk import Desk
from barsplit.errors import NoArrow, NoRoom, NoText, SplitError
from barsplit.links import kept
from barsplit.sides import beside, cut, mirrored, opposite
from barsplit.texts import row_read, row_text
from barsplit.upon import count_upon
from barsplit.ways import count_ways
from tests.helpers import (
    PRIMES, Refusing, all_kinds, some_row, some_rows_of_rooms, some_widths, turned_bars, turning_rooms, ways_in)

ROW = "5: 1 -1/2> 2 <2/4- 1"
# One of each line that is told to a desk, the row apart.
OTHER_LINES = ("beside " + ROW, "cut 0 1", "mirror", "opposite", "about 1", "split", "bars", "kept 0 2", "widths",
               "ways " + ROW, "upon " + ROW, "alike " + ROW)
ASKING_LINES = ("bars", "kept 0 2", "kept 1 1", "widths", "ways " + ROW, "upon " + ROW, "alike " + ROW,
                "alike 5: 0 -> 0 <- 0", "ways 5: 1 -> 0 <- 1")
WITH_A_ROW = ("row", "beside", "ways", "upon", "alike")


def desk_with(text):
    desk = Desk()
    desk.tell("row " + text)
    return desk


def kept_by(desk):
    """The text of the row that a desk keeps; the opposite's opposite is the row again."""
    desk.tell("opposite")
    return desk.tell("opposite")


def answer_by_the_functions(row, line):
    """What is kept behind a line that is not refused, and its answer, by the functions of the other files."""
    first, *words = line.split(" ")
    given = row_read(" ".join(words)) if first in WITH_A_ROW else None
    rooms = [] if first in WITH_A_ROW else [int(word) for word in words]
    changed = {
        "row": lambda: given, "beside": lambda: beside(row, given), "cut": lambda: cut(row, *rooms),
        "mirror": lambda: mirrored(row), "opposite": lambda: opposite(row), "about": lambda: turned_about(row, *rooms),
        "split": lambda: bar_row(row[0], ways_in(row), barred(row)[0]),
    }
    if first in changed:
        new = changed[first]()
        return new, row_text(new)
    if first == "bars":
        return row, " ".join(f"{i}-{j}" for i, j in barred(row)[0]) or "none"
    if first == "widths":
        return row, " ".join(map(str, row[1]))
    if first == "kept":
        cut(row, *rooms)
        return row, str(kept(row, *rooms))
    if first == "alike":
        told = alike(row, given)
        return row, "alike" if told[0] == "alike" else "apart {}-{}".format(*told[1])
    return row, str({"ways": count_ways, "upon": count_upon}[first](row, given))


class TestLines(unittest.TestCase):
    def test_a_known_talk(self):
        desk = Desk()
        for line, asked in (
                ("row " + ROW, ROW), ("bars", "0-2 1-1"), ("widths", "1 2 1"), ("kept 0 2", "1"), ("kept 1 1", "2"),
                ("ways 5: 1 -1/2> 2 <2/3- 1", "2"), ("upon 5: 1 -1/2> 2 <2/3- 1", "0"),
                ("alike 5: 1 -1/2> 2 <2/3- 1", "apart 0-1"), ("alike 5: 1 -1/0> 2 <4/0- 1", "alike"),
                ("split", "5: 1 -1/0> 2 <1/0- 1"), ("about 1", "5: 1 <1- 1 -4> 1"), ("bars", "0-2"),
                ("opposite", "5: 1 -1> 1 <4- 1"), ("mirror", "5: 1 -4> 1 <1- 1"),
                ("beside 5: 0 -> 1 <2- 1", "5: 1 -4/0> 2 <10/02- 2"), ("bars", "0-2 1-2"),
                ("cut 1 2", "5: 2 <10/02- 2"), ("bars", "0-1 0-1"), ("cut 1 1", "5: 2"), ("bars", "0-0 0-0"),
                ("widths", "2"), ("about 0", "5: 0"), ("bars", "none"), ("split", "5: 0"), ("widths", "0"),
                ("kept 0 0", "0"), ("alike 5: 0", "alike"), ("alike 5: 3", "apart 0-0"), ("ways 5: 3", "0"),
                ("row 2: 0 <- 1", "2: 0 <- 1"), ("widths", "0 1"), ("bars", "1-1"), ("upon 2: 1 <- 0", "1")):
            self.assertEqual(desk.tell(line), asked, line)

    def test_the_row_is_kept_as_it_is_written(self):
        for p in PRIMES:
            for row in some_rows_of_rooms(p):
                desk = Desk()
                told = desk.tell("row " + row_text(row))
                self.assertIs(type(told), str)
                self.assertEqual(told, row_text(row))
                self.assertEqual(kept_by(desk), told)

    def test_ways_and_upon_lead_from_the_kept_row(self):
        one, other = "3: 1 -> 0", "3: 1 -1> 1"
        self.assertEqual([desk_with(one).tell("ways " + other), desk_with(other).tell("ways " + one)], ["0", "1"])
        one, other = "3: 1 -> 0", "3: 0 -> 1"
        self.assertEqual([desk_with(one).tell("upon " + other), desk_with(other).tell("upon " + one)], ["1", "0"])

    def test_alike_tells_the_first_unlike_stretch(self):
        desk = desk_with("2: 1 -1> 1 -1> 1")
        for text, asked in (("2: 1 -1> 1 -0> 1", "apart 0-1"), ("2: 1 -0> 1 -1> 1", "apart 0-0"),
                            ("2: 1 -1> 1 -1> 1", "alike"), ("2: 1 -1> 1 -> 0", "apart 0-1"),
                            ("2: 0 -> 0 -> 0", "apart 0-2")):
            self.assertEqual(desk.tell("alike " + text), asked)
        self.assertEqual(desk_with("7: 0 -/> 2 -> 0").tell("alike 7: 0 -> 1 -> 0"), "apart 1-1")

    def test_ways_of_rows_too_wide_for_their_base(self):
        self.assertEqual(desk_with("7: 30").tell("ways 7: 30"), "900")
        self.assertEqual(desk_with("7: 30").tell("upon 7: 30"), "0")
        self.assertEqual(desk_with("7: 30").tell("alike 7: 30"), "alike")

    def test_each_line_with_rows_of_each_kind(self):
        for p in PRIMES:
            for ways in all_kinds():
                many = len(ways) + 1
                _, row = turned_bars(f"desk {ways}", p, ways, 10)
                other = row_text(some_row("other", p, ways, some_widths(f"desk {ways}", many, 2)))
                lines = ["beside " + other, "cut 0 0", f"cut 0 {many - 1}", f"cut {many // 2} {many - 1}", "mirror",
                         "opposite", "split", "bars", "kept 0 0", f"kept 0 {many - 1}", "widths", "ways " + other,
                         "upon " + other, "alike " + other] + [f"about {k}" for k in turning_rooms(ways)]
                for line in lines:
                    desk = desk_with(row_text(row))
                    new, asked = answer_by_the_functions(row, line)
                    told = desk.tell(line)
                    self.assertIs(type(told), str)
                    self.assertEqual(told, asked, (row, line))
                    self.assertEqual(kept_by(desk), row_text(new), (row, line))


class TestNoLine(Refusing, unittest.TestCase):
    def no_line(self, line):
        """That the line is refused, with no row kept and with one."""
        self.refused("NoLine", {}, Desk().tell, line)
        desk = desk_with(ROW)
        self.refused("NoLine", {}, desk.tell, line)
        self.assertEqual(kept_by(desk), ROW, line)

    def test_another_first_word(self):
        for line in ("", " ", "  ", "rows " + ROW, "ro", "Row " + ROW, "ROW " + ROW, ROW, "1", "none", "laid " + ROW,
                     "barred", "cuts 0 1", "Bars", "about1", "width", "turn 1", "round", "links 0 1", "ways:", "kept:",
                     "row:" + ROW, "mirror,", "quit", "help", "rowbeside", "roww 2: 1"):
            self.no_line(line)

    def test_blanks_ahead(self):
        for line in ("row " + ROW,) + OTHER_LINES:
            self.no_line(" " + line)
            self.no_line("  " + line)

    def test_blanks_behind_and_two_in_a_row(self):
        for line in OTHER_LINES:
            if line.split(" ")[0] not in WITH_A_ROW:
                self.no_line(line + " ")
                self.no_line(line + "  ")
                if " " in line:
                    self.no_line(line.replace(" ", "  ", 1))
                    self.no_line(line.replace(" ", "  "))
        self.no_line("cut 0  1")
        self.no_line("kept 0  2")

    def test_more_or_fewer_words(self):
        for first in ("mirror", "opposite", "split", "bars", "widths"):
            for words in ("0", "1", "0 1", "none", first, ROW):
                self.no_line(f"{first} {words}")
        for first in ("cut", "kept"):
            for words in ("", " ", " 0", " 0 1 2", " 0 1 0", " 0 1 " + ROW):
                self.no_line(first + words)
        for words in ("", " ", " 0 1", " 1 1", " 0 " + ROW):
            self.no_line("about" + words)

    def test_a_first_word_alone_that_wants_a_row(self):
        for first in WITH_A_ROW:
            self.no_line(first)

    def test_rooms_that_are_none(self):
        for room in ("6", "7", "8", "9", "00", "01", "10", "12", "55", "-0", "-1", "+0", "+1", "a", "x", "I", "J", "K",
                     "", "0x0", "1.", "0.", "1,", "1_", "0-1", "*", "zero", "123456"):
            self.no_line(f"about {room}")
            for first in ("cut", "kept"):
                self.no_line(f"{first} {room} 1")
                self.no_line(f"{first} 0 {room}")
                self.no_line(f"{first} {room} {room}")


class TestNothing(Refusing, unittest.TestCase):
    def test_no_row_is_kept(self):
        for line in OTHER_LINES:
            self.refused("Nothing", {}, Desk().tell, line)

    def test_ahead_of_all_refusals_behind_it(self):
        for line in ("beside ", "beside 5", "ways x", "upon  ", "alike 4: 1", "beside 2: 30 <- 1", "ways 2: 1 -> 1",
                     "upon 5:", "alike 2: 1 -2> 1", "cut 3 1", "cut 5 5", "kept 4 0", "kept 5 5", "about 5", "about 3"):
            self.refused("Nothing", {}, Desk().tell, line)

    def test_behind_lines_that_are_none(self):
        for line in ("", "beside", "cut 0", "about 6", "mirror ", "bars 0"):
            self.refused("NoLine", {}, Desk().tell, line)

    def test_still_none_behind_a_refused_row(self):
        for text in ("", "5", "5:", "4: 1", "5: 31", "2: 20 <- 20", "2: 1 -> 1", "2: 1 -2> 1", "5: 1 "):
            desk = Desk()
            with self.assertRaises(SplitError):
                desk.tell("row " + text)
            for line in OTHER_LINES:
                self.refused("Nothing", {}, desk.tell, line)
            self.assertEqual(desk.tell("row " + ROW), ROW)

    def test_row_alone_needs_none(self):
        self.assertEqual(Desk().tell("row " + ROW), ROW)


class TestRefusals(Refusing, unittest.TestCase):
    def told_of(self, text, name, told, line):
        """That a desk with this row refuses the line, and keeps the row."""
        desk = desk_with(text)
        self.refused(name, told, desk.tell, line)
        self.assertEqual(kept_by(desk), text, line)

    def test_texts_that_are_no_rows(self):
        for first in WITH_A_ROW:
            for text, name, at in (
                    ("", "NoText", 0), (" ", "NoText", 0), (" " + ROW, "NoText", 0), (ROW + " ", "NoText", 6),
                    (ROW.replace(" ", "  ", 1), "NoText", 1), ("5", "NoText", 0), ("5:", "NoText", 1),
                    ("4: 1", "NoText", 0), ("5: 31", "NoText", 1), ("5: 1 ->", "NoText", 3), ("5: 01", "NoText", 1),
                    ("5: 1 1", "NoText", 2), ("5: 1 -x> 1", "NoText", 2), ("5: 1 -1> 1 1", "NoText", 4),
                    ("5: 1 -> 1 <- 1", "NoArrow", 0), ("5: 1 -1> 1 <- 1", "NoArrow", 1), ("5: 1 -5> 1", "NoArrow", 0),
                    ("5: 1 -1> 1 <15- 2", "NoArrow", 1)):
                self.told_of(ROW, name, {"at": at}, f"{first} {text}")
            for text in ("5: 30 <- 1", "5: 16 -> 15", "5: 1" + " -1> 1" * 6):
                self.told_of(ROW, "NoWidths", {}, f"{first} {text}")

    def test_refusals_of_the_text_ahead_of_unlike(self):
        for first in WITH_A_ROW[1:]:
            self.told_of(ROW, "NoText", {"at": 1}, f"{first} 2: x")
            self.told_of(ROW, "NoWidths", {}, f"{first} 2: 30 <- 1")
            self.told_of(ROW, "NoArrow", {"at": 0}, f"{first} 2: 1 -2> 1")

    def test_unlike_rows(self):
        for first in WITH_A_ROW[1:]:
            for text in ("2: 1 -1/1> 2 <1/1- 1", "5: 1 -1/2> 2 -24> 1", "5: 1 <12- 2 <2/4- 1", "5: 1", "5: 1 -1/2> 2",
                         "5: 30", ROW + " -1> 1"):
                self.told_of(ROW, "Unlike", {}, f"{first} {text}")

    def test_unlike_ahead_of_too_many(self):
        self.told_of("5: 30", "Unlike", {}, "beside 3: 30")
        self.told_of("5: 30", "Unlike", {}, "beside 5: 30 <" + "/" * 29 + "- 0")
        self.told_of("5: 30", "TooMany", {}, "beside 5: 1")
        self.told_of("5: 15", "TooMany", {}, "beside 5: 16")
        self.assertEqual(desk_with("5: 15").tell("beside 5: 15"), "5: 30")

    def test_rooms_that_are_not_there(self):
        for first in ("cut", "kept"):
            for i, j in itertools.product(range(6), repeat=2):
                line = f"{first} {i} {j}"
                if i > 2:
                    self.told_of(ROW, "NoRoom", {"room": i}, line)
                elif j > 2 or j < i:
                    self.told_of(ROW, "NoRoom", {"room": j}, line)
                else:
                    self.assertEqual(desk_with(ROW).tell(line), answer_by_the_functions(row_read(ROW), line)[1])
        for k in (3, 4, 5):
            self.told_of(ROW, "NoRoom", {"room": k}, f"about {k}")
        for k in range(1, 6):
            self.told_of("7: 2", "NoRoom", {"room": k}, f"about {k}")

    def test_rooms_that_are_neither(self):
        self.told_of("2: 1 -1> 1 -1> 1", "NoTurn", {}, "about 1")
        self.told_of("2: 1 <1- 1 <1- 1", "NoTurn", {}, "about 1")

    def test_too_many_turned_about(self):
        self.told_of("3: 16 -> 0", "TooMany", {}, "about 1")
        self.told_of("3: 8 -> 0 <- 8", "TooMany", {}, "about 1")
        self.assertEqual(desk_with("3: 8 -> 0 <- 7").tell("about 1")[:5], "3: 8 ")
        desk = desk_with("3: 15 -> 0")
        desk.tell("about 1")
        self.assertEqual(desk.tell("widths"), "15 15")


class TestChangesNothing(unittest.TestCase):
    def test_what_only_asks(self):
        for line in ASKING_LINES:
            desk = desk_with(ROW)
            first = desk.tell(line)
            self.assertEqual(desk.tell(line), first)
            self.assertEqual(kept_by(desk), ROW)
            self.assertEqual(desk.tell(line), first)

    def test_what_is_refused_between_lines(self):
        refused = ("", "x", "row", "row 5", "row 5: 31", "row 5: 1 -> 1", "row 5: 30 <- 1", "beside 2: 1",
                   "beside 5: 1", "cut 2 1", "cut 5 5", "kept 3 0", "about 5", "about 6", "ways 5: 1", "upon x",
                   "alike 7: 1", "bars ")
        desk = desk_with(ROW)
        text = ROW
        for line in ("opposite", "mirror", "about 1", "split", "cut 0 1"):
            for wrong in refused:
                with self.assertRaises(SplitError, msg=wrong):
                    desk.tell(wrong)
                self.assertEqual(kept_by(desk), text)
            text = desk.tell(line)

    def test_two_desks_at_once(self):
        one, other = desk_with(ROW), Desk()
        with self.assertRaises(SplitError):
            other.tell("bars")
        other.tell("row 2: 3")
        self.assertEqual((one.tell("widths"), other.tell("widths")), ("1 2 1", "3"))
        one.tell("cut 0 1")
        other.tell("beside 2: 4")
        self.assertEqual((one.tell("widths"), other.tell("widths")), ("1 2", "7"))
        with self.assertRaises(SplitError):
            other.tell("cut 1 1")
        self.assertEqual((kept_by(one), kept_by(other)), ("5: 1 -1/2> 2", "2: 7"))
        with self.assertRaises(SplitError):
            Desk().tell("widths")


def drawn_line(source, row):
    """A line, perhaps one that is refused, for a desk that keeps this row."""
    first = source.choice(
        ("row", "beside", "cut", "mirror", "opposite", "about", "about", "about", "split", "bars", "kept", "widths",
         "ways", "upon", "alike", "mirror ", "bars 0", "about 6", "cut 0", "none", "row", ""))
    if first in ("cut", "kept"):
        return f"{first} {source.randrange(3)} {source.randrange(5)}"
    if first == "about":
        return f"about {source.randrange(6)}"
    if first not in WITH_A_ROW:
        return first
    seed, p, ways = source.random(), source.choice(PRIMES), source.choice(all_kinds())
    # Most rows are of the kind of the kept one, but new ones of any.
    if first != "row" and source.randrange(5):
        p, ways = row[0], ways_in(row)
    text = row_text(some_row(seed, p, ways, some_widths(seed, len(ways) + 1, 2)))
    spoilt = (text + " ", text + " x", text.replace("-", "-9", 1), text.replace("<", "<8", 1))
    return f"{first} " + source.choice((text,) * 8 + spoilt)


class TestTalk(unittest.TestCase):
    def told_or_refused(self, ask, *handed):
        try:
            return ask(*handed)
        except (NoArrow, NoText) as made:
            return type(made), made.at
        except NoRoom as made:
            return type(made), made.room
        except SplitError as made:
            return type(made), None

    def test_long_talks_held_against_the_functions(self):
        known = ("row", "beside", "cut", "mirror", "opposite", "about", "split", "bars", "kept", "widths", "ways",
                 "upon", "alike")
        found = {}
        for seed in range(12):
            source = random.Random(f"talk {seed}")
            desk, row = desk_with(ROW), row_read(ROW)
            for _ in range(150):
                line = drawn_line(source, row)
                told = self.told_or_refused(desk.tell, line)
                if line in ("mirror ", "bars 0", "about 6", "cut 0", "none", ""):
                    self.assertEqual((told[0].__name__, told[1]), ("NoLine", None), line)
                else:
                    asked = self.told_or_refused(answer_by_the_functions, row, line)
                    # Of a line that is not refused, the row that is kept then stands ahead of the answer.
                    refused = isinstance(asked[0], type)
                    self.assertEqual(told, asked if refused else asked[1], (row, line))
                    row = row if refused else asked[0]
                name = told[0].__name__ if isinstance(told, tuple) else line.split(" ")[0]
                found[name] = found.get(name, 0) + 1
        for name in known + ("NoLine", "NoText", "NoArrow", "NoRoom", "NoTurn", "Unlike"):
            self.assertGreater(found.get(name, 0), 10, found)


class TestNames(unittest.TestCase):
    def test_names_of_the_arguments(self):
        self.assertEqual(list(inspect.signature(Desk).parameters), [])
        self.assertEqual(list(inspect.signature(Desk().tell).parameters), ["line"])


if __name__ == "__main__":
    unittest.main()
