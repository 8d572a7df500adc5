"""Rows of rooms: tuples (prime, widths, arrows), each arrow a pair (way, table)."""

from barsplit.errors import NoArrow, NoPrime, NoRow, NoTable, NoWidths, TooMany, Unlike
from barsplit.tables import is_listed, is_prime, is_whole, product, table_of

MOST_ROOMS = 6
MOST_TOGETHER = 30
WAYS = ("r", "l")


def beginning_of(k, way):
    """The room from which arrow number k leads."""
    return k if way == "r" else k + 1


def end_of(k, way):
    """The room to which arrow number k leads."""
    return k + 1 if way == "r" else k


def other_way(way):
    """The way against this one."""
    return "l" if way == "r" else "r"


def is_room(many, k):
    """Whether k is one of so many rooms."""
    return is_whole(k) and 0 <= k < many


def are_widths(widths):
    """Whether the rooms of a row may have these widths."""
    if not isinstance(widths, (list, tuple)) or not 1 <= len(widths) <= MOST_ROOMS:
        return False
    # Only whole numbers can be added up and looked at together.
    if not all([is_whole(width) and width >= 0 for width in widths]):
        return False
    return sum(widths) <= MOST_TOGETHER


def widths_of(widths):
    """The widths as a row keeps them; NoWidths where it can't."""
    if not are_widths(widths):
        raise NoWidths("the widths are not one to six from 0 on, together at most thirty")
    return tuple(widths)


def arrow_of(p, widths, k, pair):
    """Arrow number k of a row of these widths, made of a pair (way, rows)."""
    if not is_listed(pair, 2) or pair[0] not in WAYS:
        raise NoArrow(k)
    way = pair[0]
    try:
        table = table_of(p, widths[end_of(k, way)], widths[beginning_of(k, way)], pair[1])
    except NoTable:
        raise NoArrow(k) from None
    return (way, table)


def row_of(p, widths, arrows):
    """The row of a prime, a list of widths and a list of pairs (way, rows)."""
    if not is_prime(p):
        raise NoPrime("the prime is none of 2, 3, 5, 7")
    wide = widths_of(widths)
    if not is_listed(arrows, len(wide) - 1):
        raise NoRow("there are not as many pairs as widths, less one")
    made = [arrow_of(p, wide, k, pair) for k, pair in enumerate(arrows)]
    return (p, wide, tuple(made))


def ways_of(row):
    """The text of the ways of the row's arrows."""
    return "".join([arrow[0] for arrow in row[2]])


def one_kind(one, other):
    """Whether two rows have the same prime and the same ways."""
    return one[0] == other[0] and ways_of(one) == ways_of(other)


def ask_one_kind(one, other):
    """Refuses two rows that are not of one kind."""
    if not one_kind(one, other):
        raise Unlike("the rows are not of one kind")


def ask_together(widths):
    """Refuses widths that together are more than those of a row."""
    if sum(widths) > MOST_TOGETHER:
        raise TooMany("the widths together are more than thirty")


def arrow_in_turns(p, k, arrow, turns, backs):
    """Arrow number k as it is between rooms that are put in turns."""
    way = arrow[0]
    turned = product(p, turns[end_of(k, way)], arrow[1])
    return (way, product(p, turned, backs[beginning_of(k, way)]))


def in_turns(row, turns, backs):
    """The row put in these turns, one and its back for each room."""
    made = [arrow_in_turns(row[0], k, arrow, turns, backs) for k, arrow in enumerate(row[2])]
    return (row[0], row[1], tuple(made))
