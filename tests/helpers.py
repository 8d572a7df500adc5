"""What several tests need: made tables, and spaces walked load by load."""

import itertools
import random

PRIMES = (2, 3, 5, 7)


def all_loads(p, long):
    return list(itertools.product(range(p), repeat=long))


def some_rows(seed, p, high, wide):
    source = random.Random(f"{seed} {p} {high} {wide}")
    return tuple(tuple(source.randrange(p) for _ in range(wide)) for _ in range(high))


def some_table(seed, p, high, wide):
    return (high, wide, some_rows(seed, p, high, wide))


def plainly_led(p, table, load):
    """Point 5 word by word."""
    high, wide, rows = table
    return tuple(sum(rows[i][j] * load[j] for j in range(wide)) % p for i in range(high))


def span(p, long, loads):
    """All sums of multiples, one by one."""
    found = {(0,) * long}
    for load in loads:
        found = {
            tuple((x + times * y) % p for x, y in zip(one, load))
            for one in found for times in range(p)
        }
    return found


def is_base(p, long, loads):
    """The form that point 7 asks of a base."""
    if not isinstance(loads, list):
        return False
    leads = []
    for load in loads:
        if not isinstance(load, tuple) or len(load) != long:
            return False
        if not all(type(x) is int and 0 <= x < p for x in load) or not any(load):
            return False
        lead = next(k for k, x in enumerate(load) if x)
        if load[lead] != 1:
            return False
        leads.append(lead)
    if leads != sorted(set(leads)):
        return False
    # Rests are never below 0, so a sum of 1 leaves 0 for all loads but the lead's own.
    return all(sum(load[lead] for load in loads) == 1 for lead in leads)


def is_table(p, table):
    """The form that point 5 asks of a table, with whole numbers alone."""
    if type(table) is not tuple or len(table) != 3:
        return False
    high, wide, rows = table
    if type(high) is not int or type(wide) is not int or type(rows) is not tuple:
        return False
    return len(rows) == high and all(
        type(row) is tuple and len(row) == wide and all(type(x) is int and 0 <= x < p for x in row)
        for row in rows)
