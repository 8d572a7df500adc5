"""Rests by a prime, and tables of them: tuples (high, wide, rows)."""

from barsplit.errors import NoPrime, NoTable, Nought

PRIMES = (2, 3, 5, 7)
MOST_HIGH_OR_WIDE = 30


def is_whole(x):
    """Whether x is a whole number; truths are none."""
    return isinstance(x, int) and not isinstance(x, bool)


def is_prime(p):
    """Whether p is one of the primes that are taken here."""
    return is_whole(p) and p in PRIMES


def rests(p, numbers):
    """The load of the rests of these numbers."""
    return tuple([x % p for x in numbers])


def inverse(p, x):
    """The rest that times x has the rest 1; Nought where there is none."""
    for y in range(1, p):
        if x * y % p == 1:
            return y
    raise Nought("0 has no inverse")


def is_side(many):
    """Whether a table may be made so high or so wide."""
    return is_whole(many) and 0 <= many <= MOST_HIGH_OR_WIDE


def is_listed(things, many):
    """Whether things are a list, or a tuple, of so many."""
    return isinstance(things, (list, tuple)) and len(things) == many


def is_line(wide, row):
    """Whether row holds wide many whole numbers."""
    return is_listed(row, wide) and all([is_whole(x) for x in row])


def table_of(p, high, wide, rows):
    """The table of the rests of these rows."""
    if not is_prime(p):
        raise NoPrime("the prime is none of 2, 3, 5, 7")
    if not is_side(high) or not is_side(wide):
        raise NoTable("high or wide is not from 0 to 30")
    if not is_listed(rows, high) or not all([is_line(wide, row) for row in rows]):
        raise NoTable("the rows are not high many of wide many numbers each")
    return (high, wide, tuple([rests(p, row) for row in rows]))


def led(p, table, load):
    """The load to which the table leads this one."""
    return rests(p, [sum([x * y for x, y in zip(row, load)]) for row in table[2]])


def product(p, one, other):
    """The table that leads as other and then one do."""
    # A row times a table is what the turned-over table makes of that row.
    over = turned_over(other)
    return (one[0], other[1], tuple([led(p, over, row) for row in one[2]]))


def added_times(p, one, much, other):
    """The one table with so many times the other, of its high and wide, added number by number."""
    rows = [rests(p, [x + much * y for x, y in zip(a, b)]) for a, b in zip(one[2], other[2])]
    return (one[0], one[1], tuple(rows))


def added(p, one, other):
    """The sum, number by number, of two tables of one high and wide."""
    return added_times(p, one, 1, other)


def less(p, one, other):
    """The difference, number by number, of two tables of one high and wide."""
    return added_times(p, one, -1, other)


def turned_over(table):
    """The table whose rows are the columns of this one."""
    columns = [tuple([row[j] for row in table[2]]) for j in range(table[1])]
    return (table[1], table[0], tuple(columns))


def same_table(many):
    """The table of this size that leads each load to itself."""
    rows = [tuple([1 if i == j else 0 for j in range(many)]) for i in range(many)]
    return (many, many, tuple(rows))


def nought_table(high, wide):
    """The table that has 0 everywhere."""
    return (high, wide, ((0,) * wide,) * high)
