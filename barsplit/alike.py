"""Rows told alike or apart."""

from barsplit.barring import barred
from barsplit.links import stretches_of
from barsplit.rows import ask_one_kind, ways_of
from barsplit.tables import product
from barsplit.ways import ways_into


def room_by_room(p, ones, others):
    """For each room the product of its two tables."""
    return [product(p, one, other) for one, other in zip(ones, others)]


def are_told_apart(ways, ones, others, bar):
    """Whether not as many ways lead to the bar from a row of the ones as from a row of the others."""
    return ways_into(ways, ones, bar) != ways_into(ways, others, bar)


def apart(ways, ones, others):
    """How rows of unlike bars are told apart."""
    stretches = stretches_of(len(ways) + 1)
    stretch = [bar for bar in stretches if ones.count(bar) != others.count(bar)][0]
    # The ways into all bars settle how often each bar is there, so one of them tells unlike rows apart.
    told = [bar for bar in stretches if are_told_apart(ways, ones, others, bar)][0]
    return ("apart", stretch, ones.count(stretch), others.count(stretch), told)


def alike(one, other):
    """Two rows told alike, with a way there and a way back, or apart."""
    ask_one_kind(one, other)
    first = barred(one)
    second = barred(other)
    if first[0] != second[0]:
        return apart(ways_of(one), first[0], second[0])
    # Each way leads by its own row's turns to the row of the bars, and on by the other one's backs.
    there = room_by_room(one[0], second[2], first[1])
    back = room_by_room(one[0], first[2], second[1])
    return ("alike", there, back)
