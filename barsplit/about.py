"""Rows turned about at a room, and the bars with them.

A room that is turned about meets its neighbours by a table that has a line for each of the neighbours' numbers, the
left one's ahead of the right one's: of an arrow that leads to the room these are columns, else they are rows.
"""

from barsplit.barring import columns
from barsplit.errors import NoRoom, NoTurn
from barsplit.rows import ask_together, beginning_of, end_of, is_room, other_way, ways_of
from barsplit.spaces import cleared, image, kernel, lead_of
from barsplit.tables import same_table, turned_over


def arrows_of(ways, k):
    """The numbers of the arrows of room k."""
    return [at for at in (k - 1, k) if 0 <= at < len(ways)]


def is_end(ways, k):
    """Whether each arrow of room k leads to it."""
    return all([end_of(at, ways[at]) == k for at in arrows_of(ways, k)])


def is_beginning(ways, k):
    """Whether each arrow of room k leads from it."""
    return all([beginning_of(at, ways[at]) == k for at in arrows_of(ways, k)])


def ask_turn(ways, k):
    """Refuses a room that is not there, or at which nothing can be turned about."""
    if not is_room(len(ways) + 1, k):
        raise NoRoom(k)
    if not is_end(ways, k) and not is_beginning(ways, k):
        raise NoTurn("the room is neither an end nor a beginning")


def lines_met(row, k, ends):
    """The lines by which room k, an end or else a beginning, meets its neighbours."""
    lines = []
    for at in arrows_of(ways_of(row), k):
        table = row[2][at][1]
        lines.extend(turned_over(table)[2] if ends else table[2])
    return tuple(lines)


def met_from_end(p, met):
    """How the new room meets the neighbours in the place of an end that met them so."""
    return columns(met[0], kernel(p, turned_over(met)))


def what_is_left(p, base, load):
    """The load's numbers at no lead's place, when so much of the base is added that it has 0 at all leads' places."""
    left = load
    for pivot in base:
        left = cleared(p, left, pivot, lead_of(pivot))
    leads = [lead_of(pivot) for pivot in base]
    return tuple([x for place, x in enumerate(left) if place not in leads])


def met_from_beginning(p, met):
    """How the new room meets the neighbours in the place of a beginning that met them so."""
    base = image(p, met)
    lines = [what_is_left(p, base, unit) for unit in same_table(met[0])[2]]
    return (met[0], met[0] - len(base), tuple(lines))


def arrow_about(way, wide, lines, ends):
    """An arrow that had this way, by which the new room, so wide, meets one neighbour in these lines."""
    table = (len(lines), wide, lines)
    return (other_way(way), table if ends else turned_over(table))


def arrows_about(row, k, met, ends):
    """The arrows of the row, those of room k as the new room meets the neighbours by them."""
    split = row[1][k - 1] if k > 0 else 0
    parts = {k - 1: met[2][:split], k: met[2][split:]}
    made = []
    for at, arrow in enumerate(row[2]):
        made.append(arrow_about(arrow[0], met[1], parts[at], ends) if at in parts else arrow)
    return tuple(made)


def turned_about(row, k):
    """The row turned about at room k."""
    ways = ways_of(row)
    ask_turn(ways, k)
    ends = is_end(ways, k)
    lines = lines_met(row, k, ends)
    old = (len(lines), row[1][k], lines)
    new = met_from_end(row[0], old) if ends else met_from_beginning(row[0], old)
    widths = row[1][:k] + (new[1],) + row[1][k + 1:]
    ask_together(widths)
    return (row[0], widths, arrows_about(row, k, new, ends))


def swapped(room, one, other):
    """The other room for the one, the one for the other; any other room stays."""
    if room == one:
        return other
    return one if room == other else room


def bars_about(ways, k, bars):
    """The bars, sorted, into which these stretches go over where the row is turned about at room k."""
    ask_turn(ways, k)
    left = [bar for bar in bars if bar[0] != k or bar[1] != k]
    # A bar that came to room k and ended there now ends ahead of it, and the other way round; so where bars begin.
    return sorted([(swapped(i, k, k + 1), swapped(j, k - 1, k)) for i, j in left])
