"""Spaces of loads, told by their bases, and what tables do to them."""

from barsplit.tables import inverse, led, rests, same_table, turned_over


def lead_of(load):
    """The place of the first number that is not 0; there is one."""
    return [place for place, x in enumerate(load) if x != 0][0]


def cleared(p, load, pivot, place):
    """The load less so much of pivot, which has 1 at the place, that it has 0 there."""
    much = load[place]
    if much == 0:
        return load
    return rests(p, [x - much * y for x, y in zip(load, pivot)])


def base_of(p, long, loads):
    """The base of all sums of multiples of these loads, each of so many numbers."""
    left = [rests(p, load) for load in loads]
    base = []
    for place in range(long):
        leading = [load for load in left if load[place] != 0]
        if not leading:
            continue
        times = inverse(p, leading[0][place])
        pivot = rests(p, [times * x for x in leading[0]])
        # The pivot's own load is left as noughts, which lead nowhere.
        left = [cleared(p, load, pivot, place) for load in left]
        base = [cleared(p, load, pivot, place) for load in base] + [pivot]
    return base


def behind_noughts(many, base):
    """The base of what stands behind the first many numbers, where these are all 0."""
    return [load[many:] for load in base if not any(load[:many])]


def led_on(p, table, base):
    """The base of all loads to which the table leads the loads of the space of this base."""
    return base_of(p, table[0], [led(p, table, load) for load in base])


def led_into(p, table, base):
    """The base of all loads that the table leads to loads of the space of this base."""
    # Where (led load less a load of the space, load) begins with noughts, the load is one of these.
    pairs = [column + unit for column, unit in zip(turned_over(table)[2], same_table(table[1])[2])]
    free = [load + (0,) * table[1] for load in base]
    return behind_noughts(table[0], base_of(p, table[0] + table[1], pairs + free))


def kernel(p, table):
    """The base of all loads that the table leads to noughts."""
    return led_into(p, table, [])


def image(p, table):
    """The base of all loads to which the table leads."""
    return base_of(p, table[0], turned_over(table)[2])


def rank(p, table):
    """The size of the image."""
    return len(image(p, table))


def solved(p, table, load):
    """The load, 0 where the rows' base has no lead, that is led to this one; or None."""
    wide = table[1]
    answer = [0] * wide
    for line in base_of(p, wide + 1, [row + (x,) for row, x in zip(table[2], load)]):
        place = lead_of(line)
        # Such a line asks that a sum of no numbers be 1.
        if place == wide:
            return None
        answer[place] = line[wide]
    return tuple(answer)


def back_of(p, table):
    """The table that undoes this one from either side; None where there is none."""
    many = table[0]
    if table[1] != many:
        return None
    same = same_table(many)[2]
    base = base_of(p, many + many, [row + unit for row, unit in zip(table[2], same)])
    if [load[:many] for load in base] != list(same):
        return None
    return (many, many, tuple([load[many:] for load in base]))
