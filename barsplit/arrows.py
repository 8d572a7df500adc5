"""Arrows, along which spaces of loads are carried from room to room."""

from barsplit.spaces import led_into, led_on


class Arrow:
    """An arrow between two neighbours: a Right or a Left, each of which carries forth and back in its own way."""

    def __init__(self, p, table):
        self.p = p
        self.table = table


class Right(Arrow):
    """An arrow whose table leads from the left room to the right one."""

    def forth(self, base):
        """The base of all loads to which the table leads the space's loads."""
        return led_on(self.p, self.table, base)

    def back(self, base):
        """The base of all loads that the table leads to the space's loads."""
        return led_into(self.p, self.table, base)


class Left(Arrow):
    """An arrow whose table leads from the right room to the left one."""

    def forth(self, base):
        """The base of all loads that the table leads to the space's loads."""
        return led_into(self.p, self.table, base)

    def back(self, base):
        """The base of all loads to which the table leads the space's loads."""
        return led_on(self.p, self.table, base)


def arrow_by(p, way, table):
    """The Right or the Left of a way and a table."""
    return Right(p, table) if way == "r" else Left(p, table)


def arrow_at(row, k):
    """Arrow number k of a row, as a Right or a Left."""
    arrow = row[2][k]
    return arrow_by(row[0], arrow[0], arrow[1])


def carried(row, base, i, j):
    """The base of the space that is carried from room i to room j."""
    there = list(base)
    for k in range(i, j):
        there = arrow_at(row, k).forth(there)
    for k in range(i - 1, j - 1, -1):
        there = arrow_at(row, k).back(there)
    return there
