"""Rows of bars."""

from barsplit.errors import NoRow
from barsplit.rows import MOST_ROOMS, WAYS, ask_together, beginning_of, end_of, is_room
from barsplit.tables import is_listed


def are_ways(ways):
    """Whether these may be the ways of a row."""
    if not isinstance(ways, str) or len(ways) >= MOST_ROOMS:
        return False
    return all([way in WAYS for way in ways])


def is_stretch(many, bar):
    """Whether bar is a stretch of so many rooms."""
    if not is_listed(bar, 2) or not is_room(many, bar[0]) or not is_room(many, bar[1]):
        return False
    return bar[0] <= bar[1]


def bars_in(bars, room):
    """The places of the bars that have the room."""
    return [place for place, bar in enumerate(bars) if bar[0] <= room <= bar[1]]


def bar_table(end, beginning):
    """The table that leads each bar on, given the places of the bars of its end and of its beginning."""
    rows = [tuple([1 if x == y else 0 for y in beginning]) for x in end]
    return (len(end), len(beginning), tuple(rows))


def row_of_bars(p, ways, bars):
    """The row of these stretches of its rooms, however wide it is."""
    listed = sorted(bars)
    rooms = [bars_in(listed, room) for room in range(len(ways) + 1)]
    arrows = [(way, bar_table(rooms[end_of(k, way)], rooms[beginning_of(k, way)])) for k, way in enumerate(ways)]
    return (p, tuple([len(places) for places in rooms]), tuple(arrows))


def bar_row(p, ways, bars):
    """The row of these bars, a list of stretches in any order."""
    if not are_ways(ways):
        raise NoRow("the ways are not at most five letters r, l")
    many = len(ways) + 1
    if not all([is_stretch(many, bar) for bar in bars]):
        raise NoRow("a bar is no stretch of these rooms")
    # Each bar adds one to the width of each of its rooms.
    ask_together([bar[1] - bar[0] + 1 for bar in bars])
    return row_of_bars(p, ways, bars)
