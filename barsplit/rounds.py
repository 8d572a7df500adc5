"""Widths moved room by room and in rounds, and ways turned with them."""

from barsplit.about import arrows_of, ask_turn, is_end
from barsplit.links import stretches_of
from barsplit.rows import is_room, other_way


def moved(widths, k):
    """The widths with the sum of the neighbours' numbers, less the old one, at room k."""
    near = sum([widths[room] for room in (k - 1, k + 1) if is_room(len(widths), room)])
    return tuple([near - width if room == k else width for room, width in enumerate(widths)])


def widths_about(ways, k, widths):
    """The widths moved at room k."""
    ask_turn(ways, k)
    return moved(widths, k)


def ways_about(ways, k):
    """The ways turned at room k."""
    ask_turn(ways, k)
    turned = arrows_of(ways, k)
    return "".join([other_way(way) if at in turned else way for at, way in enumerate(ways)])


def turning_order(ways):
    """All rooms, each once: ever the least one left that is an end, the ways then being turned there."""
    order = []
    now = ways
    left = list(range(len(ways) + 1))
    while left:
        k = [room for room in left if is_end(now, room)][0]
        order.append(k)
        left.remove(k)
        now = ways_about(now, k)
    return order


def widths_round(ways, widths):
    """The widths moved at all rooms in the turning order."""
    now = widths
    # In this order each room is an end when it is moved, so nothing is to be refused.
    for k in turning_order(ways):
        now = moved(now, k)
    return now


def all_stretches(many):
    """All stretches of so many rooms, sorted."""
    return stretches_of(many)
