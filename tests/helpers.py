"""What several tests need: made tables and rows, spaces walked load by load, refusals looked at."""

import itertools
import random

from barsplit import errors

PRIMES = (2, 3, 5, 7)
FORTY = 10 ** 40 - 1
REFUSALS = ("NoPrime", "Nought", "NoTable", "NoWidths", "NoRow", "Unlike", "TooMany",
            "NoTurn", "NoLine", "Nothing", "NoArrow", "NoText", "NoRoom")


def all_loads(p, long):
    return list(itertools.product(range(p), repeat=long))


def some_rows(seed, p, high, wide):
    source = random.Random(f"{seed} {p} {high} {wide}")
    return tuple(tuple(source.randrange(p) for _ in range(wide)) for _ in range(high))


def some_table(seed, p, high, wide):
    return (high, wide, some_rows(seed, p, high, wide))


def plainly_led(p, table, load):
    """Point 5 word by word."""
    high, wide, rows = table
    return tuple(sum(rows[i][j] * load[j] for j in range(wide)) % p for i in range(high))


def span(p, long, loads):
    """All sums of multiples, one by one."""
    found = {(0,) * long}
    for load in loads:
        found = {
            tuple((x + times * y) % p for x, y in zip(one, load))
            for one in found for times in range(p)
        }
    return found


def is_base(p, long, loads):
    """The form that point 7 asks of a base."""
    if not isinstance(loads, list):
        return False
    leads = []
    for load in loads:
        if not isinstance(load, tuple) or len(load) != long:
            return False
        if not all(type(x) is int and 0 <= x < p for x in load) or not any(load):
            return False
        lead = next(k for k, x in enumerate(load) if x)
        if load[lead] != 1:
            return False
        leads.append(lead)
    if leads != sorted(set(leads)):
        return False
    # Rests are never below 0, so a sum of 1 leaves 0 for all loads but the lead's own.
    return all(sum(load[lead] for load in loads) == 1 for lead in leads)


def is_table(p, table):
    """The form that point 5 asks of a table, with whole numbers alone."""
    if type(table) is not tuple or len(table) != 3:
        return False
    high, wide, rows = table
    if type(high) is not int or type(wide) is not int or type(rows) is not tuple:
        return False
    return len(rows) == high and all(
        type(row) is tuple and len(row) == wide and all(type(x) is int and 0 <= x < p for x in row)
        for row in rows)


def all_kinds(most=6):
    """The ways of all rows of one to so many rooms."""
    return ["".join(ways) for many in range(most) for ways in itertools.product("rl", repeat=many)]


def some_widths(seed, many, most=3):
    source = random.Random(f"widths {seed} {many}")
    return tuple(source.randrange(most + 1) for _ in range(many))


def rooms_of(k, way):
    """The beginning and the end of arrow number k, as point 10 tells them."""
    return {"r": (k, k + 1), "l": (k + 1, k)}[way]


def some_row(seed, p, ways, widths):
    """A row of these ways and widths, put together without the program."""
    arrows = []
    for k, way in enumerate(ways):
        begin, end = rooms_of(k, way)
        arrows.append((way, some_table(f"{seed} {k}", p, widths[end], widths[begin])))
    return (p, tuple(widths), tuple(arrows))


def some_rows_of_rooms(p, most=6):
    """A row of each kind, with widths of 0 among them, and one without any numbers."""
    for at, ways in enumerate(all_kinds(most)):
        yield some_row("row", p, ways, some_widths(at, len(ways) + 1))
    for many in range(1, most + 1):
        yield some_row("noughts", p, ("rl" * 3)[:many - 1], (0,) * many)


def is_row(row):
    """The form that point 10 asks of a row, with whole numbers alone."""
    if type(row) is not tuple or len(row) != 3:
        return False
    p, widths, arrows = row
    if type(p) is not int or p not in PRIMES or type(widths) is not tuple or type(arrows) is not tuple:
        return False
    if not all(type(width) is int and width >= 0 for width in widths):
        return False
    if not 1 <= len(widths) <= 6 or sum(widths) > 30 or len(arrows) != len(widths) - 1:
        return False
    for k, arrow in enumerate(arrows):
        if type(arrow) is not tuple or len(arrow) != 2 or arrow[0] not in ("r", "l"):
            return False
        begin, end = rooms_of(k, arrow[0])
        if not is_table(p, arrow[1]) or arrow[1][:2] != (widths[end], widths[begin]):
            return False
    return True


class Refusing:
    """Looks at refusals; a test case stands beside it."""

    def refused(self, name, told, ask, *handed):
        """That ask refuses with the class of this name, which tells just the fields told."""
        with self.assertRaises(ValueError, msg=handed) as caught:
            ask(*handed)
        made = caught.exception
        self.assertIsInstance(made, errors.SplitError, handed)
        for other in REFUSALS:
            self.assertEqual(isinstance(made, getattr(errors, other)), other == name, (handed, repr(made)))
        fields = {field: getattr(made, field) for field in ("at", "room") if hasattr(made, field)}
        self.assertEqual(fields, told, handed)
