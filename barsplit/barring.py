"""Papers of rows: their bars, and the turns by which they are seen.

The bars grow from room to room. A growing bar is a pair (first room, loads), with its load in each room from there on.
In each room the loads of its bars are independent and make up all loads, and each arrow leads a bar's load to the
same bar's load or, where the bar ends, to noughts. The bars that have the last room so far stand in such an order
that each keeps all this when some of the bars behind it is added to it.
"""

from barsplit.spaces import back_of, image, kernel, lead_of, led_into, solved
from barsplit.tables import led, same_table, turned_over


def stretch_of(bar):
    """The stretch over which a bar has grown."""
    return (bar[0], bar[0] + len(bar[1]) - 1)


def has_room(bar, room):
    """Whether a bar has a load in the room."""
    return bar[0] <= room < bar[0] + len(bar[1])


def loads_in(bars, room):
    """The loads of the bars that have the room."""
    return [bar[1][room - bar[0]] for bar in bars if has_room(bar, room)]


def columns(high, loads):
    """The table whose columns are these loads, each of so many numbers."""
    return turned_over((len(loads), high, tuple(loads)))


def mixed_load(row, bars, times, room):
    """The sum of so many times the load of each bar in the room; a bar that has it not adds nothing."""
    there = [much for much, bar in zip(times, bars) if has_room(bar, room)]
    return led(row[0], columns(row[1][room], loads_in(bars, room)), there)


def mixed(row, bars, times):
    """The first bar that is taken at all, with so many times those behind it added."""
    first = bars[lead_of(times)]
    loads = [mixed_load(row, bars, times, first[0] + place) for place in range(len(first[1]))]
    return (first[0], tuple(loads))


def settled(row, k, bars):
    """The bars that have room k, changed so that arrow k leads each of them on or ends it."""
    way = row[2][k][0]
    table = row[2][k][1]
    # Some of the bars are to make up all loads that are led to noughts or, by the other way, all that are led to.
    special = kernel(row[0], table) if way == "r" else image(row[0], table)
    base = led_into(row[0], columns(row[1][k], loads_in(bars, k)), special)
    leads = dict([(lead_of(times), times) for times in base])
    return [mixed(row, bars, leads[place]) if place in leads else bar for place, bar in enumerate(bars)]


def next_load(p, arrow, load):
    """The load with which a bar of this load goes on over the arrow; None where it ends."""
    if arrow[0] == "l":
        return solved(p, arrow[1], load)
    there = led(p, arrow[1], load)
    return there if any(there) else None


def taken_on(p, arrow, bar):
    """The bar as it is behind the arrow."""
    load = next_load(p, arrow, bar[1][-1])
    return bar if load is None else (bar[0], bar[1] + (load,))


def new_loads(p, arrow):
    """The loads of the bars that begin behind the arrow."""
    if arrow[0] == "l":
        return kernel(p, arrow[1])
    leads = [lead_of(load) for load in image(p, arrow[1])]
    return [unit for place, unit in enumerate(same_table(arrow[1][0])[2]) if place not in leads]


def grown(row, k, bars):
    """The bars of the rooms up to k, grown over arrow k."""
    p = row[0]
    arrow = row[2][k]
    ended = [bar for bar in bars if not has_room(bar, k)]
    here = settled(row, k, [bar for bar in bars if has_room(bar, k)])
    old = [taken_on(p, arrow, bar) for bar in here]
    new = [(k + 1, (load,)) for load in new_loads(p, arrow)]
    # A new bar is free but for what the arrow leads to, so old ones may be added to it; by the other way it is led to
    # noughts, so it may be added to old ones.
    return ended + (new + old if arrow[0] == "r" else old + new)


def all_grown(row):
    """The bars of the row, grown over all its rooms, sorted by their stretches."""
    bars = [(0, (unit,)) for unit in same_table(row[1][0])[2]]
    for k in range(len(row[2])):
        bars = grown(row, k, bars)
    return sorted(bars, key=stretch_of)


def barred(row):
    """The paper of a row: its bars, a turn for each room, and their backs."""
    bars = all_grown(row)
    # The back of a turn leads each bar's number to the bar's own load.
    backs = [columns(width, loads_in(bars, room)) for room, width in enumerate(row[1])]
    turns = [back_of(row[0], back) for back in backs]
    return ([stretch_of(bar) for bar in bars], turns, backs)
