"""Rows laid upon rows by joins, which fall apart by slants or are stuck by weights."""

from barsplit.errors import NoArrow
from barsplit.rows import ask_one_kind
from barsplit.sides import joined, widths_together
from barsplit.spaces import solved
from barsplit.tables import rests, turned_over
from barsplit.ways import arrow_sizes, count_ways, gaps_table, numbers_in, room_sizes, tables_in, written

# Told of joins too many, whatever the row has.
BEYOND_ALL_ARROWS = 5


def is_join(size, join):
    """Whether join is a table of this high and wide."""
    return isinstance(join, tuple) and join[:2] == size


def ask_joins(under, upper, joins):
    """Refuses rows that are not of one kind, and joins by which upper can't be laid upon under."""
    ask_one_kind(under, upper)
    sizes = arrow_sizes(upper, under)
    for k, size in enumerate(sizes):
        if k >= len(joins) or not is_join(size, joins[k]):
            raise NoArrow(k)
    if len(joins) > len(sizes):
        raise NoArrow(BEYOND_ALL_ARROWS)


def laid_upon(under, upper, joins):
    """The row that has under and, behind its numbers, upper in its rooms, led over to under by the joins."""
    ask_joins(under, upper, joins)
    return joined(under, upper, joins)


def weights_against(p, slanted, load):
    """The load that times each column of slanted is 0 and times this load is 1."""
    columns = turned_over(slanted)
    table = (columns[0] + 1, columns[1], columns[2] + (load,))
    return solved(p, table, (0,) * columns[0] + (1,))


def fallen(under, upper, joins):
    """The slants by which upper falls apart from under, or the weights that tell that there are none."""
    ask_joins(under, upper, joins)
    widths_together(under, upper)
    p = under[0]
    # The joins that fall apart by slants are, with the other sign, the gaps by which the slants fail to be a way.
    slanted = gaps_table(upper, under)
    load = rests(p, [-x for x in written(joins)])
    slants = solved(p, slanted, load)
    if slants is not None:
        return ("parted", tables_in(room_sizes(upper, under), slants))
    # The trace of weight times join goes through the numbers of the join and those of the weight turned over.
    weights = tables_in(arrow_sizes(upper, under), weights_against(p, slanted, load))
    return ("stuck", [turned_over(weight) for weight in weights])


def plain_sum(upper, under):
    """The sum, over the rooms less that over the arrows, of upper widths times under widths."""
    ask_one_kind(upper, under)
    return numbers_in(room_sizes(upper, under)) - numbers_in(arrow_sizes(upper, under))


def count_upon(upper, under):
    """How many independent ways there are to lay upper upon under without its falling apart."""
    return count_ways(upper, under) - plain_sum(upper, under)
