"""Ways from row to row: lists of tables, one for each room, that go together with the arrows."""

from barsplit.barring import barred
from barsplit.errors import TooMany
from barsplit.rows import ask_one_kind, beginning_of, end_of, ways_of
from barsplit.spaces import kernel
from barsplit.tables import less, product, same_table, turned_over

MOST_NUMBERS = 60


def room_sizes(one, other):
    """The high and the wide of each room's table, led from one to other."""
    return list(zip(other[1], one[1]))


def arrow_sizes(one, other):
    """For each arrow, the width of other at its end and that of one at its beginning."""
    ways = ways_of(one)
    return [(other[1][end_of(k, way)], one[1][beginning_of(k, way)]) for k, way in enumerate(ways)]


def numbers_in(sizes):
    """How many numbers tables of these sizes have together."""
    return sum([high * wide for high, wide in sizes])


def written(tables):
    """The load of all numbers of the tables, one table behind the other, row by row."""
    load = []
    for table in tables:
        for line in table[2]:
            load.extend(line)
    return tuple(load)


def tables_in(sizes, load):
    """The tables of these sizes that are written as this load."""
    made = []
    begin = 0
    for high, wide in sizes:
        lines = [load[begin + i * wide:begin + (i + 1) * wide] for i in range(high)]
        made.append((high, wide, tuple(lines)))
        begin = begin + high * wide
    return made


def gap(one, other, tables, k):
    """By how much tables, one for each room, fail to be a way from one to other at arrow k."""
    p = one[0]
    way = one[2][k][0]
    first_along = product(p, tables[end_of(k, way)], one[2][k][1])
    first_across = product(p, other[2][k][1], tables[beginning_of(k, way)])
    return less(p, first_along, first_across)


def gaps(one, other, tables):
    """The gaps of the tables at all arrows."""
    return [gap(one, other, tables, k) for k in range(len(one[2]))]


def gaps_table(one, other):
    """The table that leads tables for the rooms, written as a load, to their gaps, written likewise."""
    sizes = room_sizes(one, other)
    many = numbers_in(sizes)
    led_units = [written(gaps(one, other, tables_in(sizes, unit))) for unit in same_table(many)[2]]
    return turned_over((many, numbers_in(arrow_sizes(one, other)), tuple(led_units)))


def ways_base(one, other):
    """The base of the ways from one to other, each of its loads as the list of tables."""
    ask_one_kind(one, other)
    sizes = room_sizes(one, other)
    if numbers_in(sizes) > MOST_NUMBERS:
        raise TooMany("the ways have more than sixty numbers")
    return [tables_in(sizes, load) for load in kernel(one[0], gaps_table(one, other))]


def left_holds(ways, one, other):
    """Whether a way from bar one to bar other holds at the left end of what they have in common."""
    if one[0] == other[0]:
        return True
    return ways[max(one[0], other[0]) - 1] == ("l" if one[0] < other[0] else "r")


def right_holds(ways, one, other):
    """Whether a way from bar one to bar other holds at the right end of what they have in common."""
    if one[1] == other[1]:
        return True
    return ways[min(one[1], other[1])] == ("r" if one[1] > other[1] else "l")


def bar_ways(ways, one, other):
    """1 where a way leads from bar one to bar other, two stretches; 0 where only noughts do."""
    if max(one[0], other[0]) > min(one[1], other[1]):
        return 0
    return 1 if left_holds(ways, one, other) and right_holds(ways, one, other) else 0


def ways_into(ways, bars, bar):
    """The number of ways from a row of these bars to the row of the one bar."""
    return sum([bar_ways(ways, one, bar) for one in bars])


def count_ways(one, other):
    """The number of ways from one to other."""
    ask_one_kind(one, other)
    bars = barred(one)[0]
    return sum([ways_into(ways_of(one), bars, bar) for bar in barred(other)[0]])
