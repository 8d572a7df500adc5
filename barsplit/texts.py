"""Rows written as texts, and read again."""

from barsplit.errors import NoArrow, NoText
from barsplit.rows import MOST_TOGETHER, arrow_of, end_of, widths_of
from barsplit.tables import PRIMES

TABLE_SIGNS = "0123456789/"


def table_text(table):
    """The table's rows, one figure for each rest, parted by strokes."""
    return "/".join(["".join([str(x) for x in row]) for row in table[2]])


def arrow_text(arrow):
    """The word of an arrow."""
    table = table_text(arrow[1])
    return f"-{table}>" if arrow[0] == "r" else f"<{table}-"


def row_text(row):
    """The text of a row."""
    prime = row[0]
    words = [f"{prime}:", str(row[1][0])]
    for arrow, width in zip(row[2], row[1][1:]):
        words.append(arrow_text(arrow))
        words.append(str(width))
    return " ".join(words)


def is_prime_word(word):
    """Whether the word is a prime and a colon."""
    return word in [f"{prime}:" for prime in PRIMES]


def is_width_word(word):
    """Whether the word is a whole number from 0 to 30."""
    # Looked up among the written numbers, none with a nought or a sign ahead gets by.
    return word in [str(width) for width in range(MOST_TOGETHER + 1)]


def is_arrow_word(word):
    """Whether the word has the form of an arrow, whatever its table."""
    if word[:1] + word[-1:] not in ("->", "<-"):
        return False
    return all([sign in TABLE_SIGNS for sign in word[1:-1]])


def has_form(place, word):
    """Whether the word has the form that is due at its place."""
    if place == 0:
        return is_prime_word(word)
    if place % 2 == 1:
        return is_width_word(word)
    return is_arrow_word(word)


def check_forms(words):
    """Refuses the first word that has not the form due at its place."""
    for place, word in enumerate(words):
        if not has_form(place, word):
            raise NoText(place)
    # Widths stand at the odd places, so behind an odd number of words one is wanting.
    if len(words) % 2 == 1:
        raise NoText(len(words))


def figures_of(line):
    """The numbers of a row of figures."""
    return [int(figure) for figure in line]


def rows_read(signs, high):
    """The rows that the signs of a table so high tell."""
    # Without signs there is one row without figures, unless the widths tell that there is none.
    if signs == "" and high == 0:
        return []
    return [figures_of(line) for line in signs.split("/")]


def are_rests(p, numbers):
    """Whether these numbers, none below 0, are rests."""
    return all([x < p for x in numbers])


def arrow_read(p, widths, k, word):
    """Arrow number k of a row of these widths, read from its word."""
    way = "r" if word.startswith("-") else "l"
    rows = rows_read(word[1:-1], widths[end_of(k, way)])
    # A made arrow takes any numbers as their rests; a written one has rests alone.
    if not all([are_rests(p, row) for row in rows]):
        raise NoArrow(k)
    return arrow_of(p, widths, k, (way, rows))


def row_read(text):
    """The row of which this is the text."""
    words = text.split(" ")
    check_forms(words)
    p = int(words[0][:-1])
    widths = widths_of([int(word) for word in words[1::2]])
    arrows = [arrow_read(p, widths, k, word) for k, word in enumerate(words[2::2])]
    return (p, widths, tuple(arrows))
