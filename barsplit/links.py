"""Links of rooms, what is kept along them, and the number of each stretch."""

from barsplit.arrows import arrow_by
from barsplit.sides import tables_beside
from barsplit.spaces import base_of, behind_noughts
from barsplit.tables import same_table


def link(row, i, j):
    """The base of the link of the rooms i and j, i not above j."""
    same = same_table(row[1][i])
    base = [unit + unit for unit in same[2]]
    for arrow in row[2][i:j]:
        # The load of room i stands ahead and stays, while the one behind it is carried on.
        base = arrow_by(row[0], arrow[0], tables_beside(same, arrow[1])).forth(base)
    return base


def kept(row, i, j):
    """What is kept from room i to room j, i not above j."""
    base = link(row, i, j)
    first = row[1][i]
    second = row[1][j]
    swapped = base_of(row[0], second + first, [load[first:] + load[:first] for load in base])
    return len(base) - len(behind_noughts(second, swapped)) - len(behind_noughts(first, base))


def stretches_of(many):
    """All stretches of so many rooms, sorted."""
    found = []
    for i in range(many):
        found.extend([(i, j) for j in range(i, many)])
    return found


def number_of(much, i, j):
    """The number of a stretch, where much tells what is kept on each stretch of the row."""
    # From or to a room that is not there nothing is kept.
    longer = much.get((i - 1, j), 0) + much.get((i, j + 1), 0)
    return much[(i, j)] - longer + much.get((i - 1, j + 1), 0)


def numbers(row):
    """The number of each stretch of the row."""
    stretches = stretches_of(len(row[1]))
    much = dict([((i, j), kept(row, i, j)) for i, j in stretches])
    return dict([((i, j), number_of(much, i, j)) for i, j in stretches])
