"""Rows beside one another, cut, mirrored, opposite."""

from barsplit.errors import NoRoom
from barsplit.rows import ask_one_kind, ask_together, is_room, other_way
from barsplit.tables import nought_table, turned_over


def tables_joined(one, other, join):
    """The table that leads the first numbers by one, those behind them by other and, to the first ones, by join."""
    first = [row + beyond for row, beyond in zip(one[2], join[2])]
    second = [(0,) * one[1] + row for row in other[2]]
    return (one[0] + other[0], one[1] + other[1], tuple(first + second))


def no_join(one, other):
    """The join of two tables that leads nothing over."""
    return nought_table(one[0], other[1])


def tables_beside(one, other):
    """The table that leads the first numbers by the one table, those behind them by the other."""
    return tables_joined(one, other, no_join(one, other))


def widths_together(one, other):
    """The widths of both rows, room by room; TooMany where no row can have them."""
    widths = tuple([x + y for x, y in zip(one[1], other[1])])
    ask_together(widths)
    return widths


def joined(one, other, joins):
    """The row that has one and, behind its numbers, other in its rooms, with a join for each arrow."""
    widths = widths_together(one, other)
    arrows = [(a[0], tables_joined(a[1], b[1], join)) for a, b, join in zip(one[2], other[2], joins)]
    return (one[0], widths, tuple(arrows))


def beside(one, other):
    """The row that has one and, behind its numbers, other in its rooms."""
    ask_one_kind(one, other)
    return joined(one, other, [no_join(a[1], b[1]) for a, b in zip(one[2], other[2])])


def ask_rooms(row, i, j):
    """Refuses i where it is no room of the row, and j where it is none or below i."""
    many = len(row[1])
    if not is_room(many, i):
        raise NoRoom(i)
    if not is_room(many, j) or j < i:
        raise NoRoom(j)


def cut(row, i, j):
    """The row of the rooms from i to j."""
    ask_rooms(row, i, j)
    return (row[0], row[1][i:j + 1], row[2][i:j])


def mirrored(row):
    """The row with its rooms and arrows in the other order."""
    arrows = [(other_way(arrow[0]), arrow[1]) for arrow in reversed(row[2])]
    return (row[0], tuple(reversed(row[1])), tuple(arrows))


def opposite(row):
    """The row with each arrow led the other way by its table turned over."""
    arrows = [(other_way(arrow[0]), turned_over(arrow[1])) for arrow in row[2]]
    return (row[0], row[1], tuple(arrows))
