"""Rows beside one another, cut, mirrored, opposite."""

from barsplit.errors import NoRoom, TooMany
from barsplit.rows import MOST_TOGETHER, ask_one_kind, is_room, other_way
from barsplit.tables import turned_over


def tables_beside(one, other):
    """The table that leads the first numbers by the one table, those behind them by the other."""
    first = [row + (0,) * other[1] for row in one[2]]
    second = [(0,) * one[1] + row for row in other[2]]
    return (one[0] + other[0], one[1] + other[1], tuple(first + second))


def beside(one, other):
    """The row that has one and, behind its numbers, other in its rooms."""
    ask_one_kind(one, other)
    widths = tuple([x + y for x, y in zip(one[1], other[1])])
    if sum(widths) > MOST_TOGETHER:
        raise TooMany("the widths together are more than thirty")
    arrows = [(a[0], tables_beside(a[1], b[1])) for a, b in zip(one[2], other[2])]
    return (one[0], widths, tuple(arrows))


def cut(row, i, j):
    """The row of the rooms from i to j."""
    many = len(row[1])
    if not is_room(many, i):
        raise NoRoom(i)
    if not is_room(many, j) or j < i:
        raise NoRoom(j)
    return (row[0], row[1][i:j + 1], row[2][i:j])


def mirrored(row):
    """The row with its rooms and arrows in the other order."""
    arrows = [(other_way(arrow[0]), arrow[1]) for arrow in reversed(row[2])]
    return (row[0], tuple(reversed(row[1])), tuple(arrows))


def opposite(row):
    """The row with each arrow led the other way by its table turned over."""
    arrows = [(other_way(arrow[0]), turned_over(arrow[1])) for arrow in row[2]]
    return (row[0], row[1], tuple(arrows))
