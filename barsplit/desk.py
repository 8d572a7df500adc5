"""The desk: it keeps a row, is told lines, and answers each with a text."""

from barsplit.about import turned_about
from barsplit.alike import alike
from barsplit.barring import barred
from barsplit.bars import bar_row
from barsplit.errors import NoLine, Nothing
from barsplit.links import kept
from barsplit.rows import ways_of
from barsplit.sides import ask_rooms, beside, cut, mirrored, opposite
from barsplit.texts import row_read, row_text
from barsplit.upon import count_upon
from barsplit.ways import count_ways

ROOM_WORDS = ("0", "1", "2", "3", "4", "5")
LINES_WITH_A_ROW = ("row", "beside", "ways", "upon", "alike")
# How many rooms stand behind each other first word.
ROOMS_BEHIND = {"cut": 2, "mirror": 0, "opposite": 0, "about": 1, "split": 0, "bars": 0, "kept": 2, "widths": 0}
CHANGING_LINES = ("row", "beside", "cut", "mirror", "opposite", "about", "split")


def is_desk_line(words):
    """Whether the words make a line that a desk knows."""
    first = words[0]
    if first in LINES_WITH_A_ROW:
        return len(words) > 1
    if first not in ROOMS_BEHIND or len(words) != ROOMS_BEHIND[first] + 1:
        return False
    return all([word in ROOM_WORDS for word in words[1:]])


def row_behind(words):
    """The row that is written behind the first word."""
    return row_read(" ".join(words[1:]))


def rooms_behind(words):
    """The rooms that stand behind the first word."""
    return [int(word) for word in words[1:]]


def stretch_text(stretch):
    """A stretch as its two rooms."""
    i = stretch[0]
    j = stretch[1]
    return f"{i}-{j}"


def split_row(row):
    """The row of the bars of this one."""
    return bar_row(row[0], ways_of(row), barred(row)[0])


def changed(row, words):
    """The row that is kept, in the place of this one, behind a line that changes it."""
    first = words[0]
    if first == "row":
        return row_behind(words)
    if first == "beside":
        return beside(row, row_behind(words))
    if first == "cut":
        rooms = rooms_behind(words)
        return cut(row, rooms[0], rooms[1])
    if first == "about":
        return turned_about(row, rooms_behind(words)[0])
    if first == "mirror":
        return mirrored(row)
    if first == "opposite":
        return opposite(row)
    return split_row(row)


def bars_text(row):
    """The bars of the row, or that there are none."""
    bars = barred(row)[0]
    return " ".join([stretch_text(bar) for bar in bars]) if bars else "none"


def kept_text(row, rooms):
    """What is kept from the first to the second of the rooms."""
    ask_rooms(row, rooms[0], rooms[1])
    return str(kept(row, rooms[0], rooms[1]))


def alike_text(row, other):
    """That both rows are alike, or by which stretch they are apart."""
    told = alike(row, other)
    if told[0] == "alike":
        return "alike"
    return "apart " + stretch_text(told[1])


def answered(row, words):
    """The answer of a line that only asks of the row."""
    first = words[0]
    if first == "bars":
        return bars_text(row)
    if first == "kept":
        return kept_text(row, rooms_behind(words))
    if first == "widths":
        return " ".join([str(width) for width in row[1]])
    if first == "ways":
        return str(count_ways(row, row_behind(words)))
    if first == "upon":
        return str(count_upon(row, row_behind(words)))
    return alike_text(row, row_behind(words))


class Desk:
    """A desk, which keeps a row, at first none."""

    def __init__(self):
        self.row = None

    def tell(self, line):
        """The answer to a line."""
        words = line.split(" ")
        if not is_desk_line(words):
            raise NoLine("the desk knows no such line")
        if self.row is None and words[0] != "row":
            raise Nothing("the desk keeps no row")
        if words[0] not in CHANGING_LINES:
            return answered(self.row, words)
        # Only a row that was not refused comes to be kept.
        self.row = changed(self.row, words)
        return row_text(self.row)
