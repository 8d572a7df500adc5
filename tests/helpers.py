"""What several tests need: made tables and rows, spaces walked load by load, refusals looked at."""

import functools
import itertools
import random

from barsplit import errors

PRIMES = (2, 3, 5, 7)
FORTY = 10 ** 40 - 1
REFUSALS = ("NoPrime", "Nought", "NoTable", "NoWidths", "NoRow", "Unlike", "TooMany",
            "NoTurn", "NoLine", "Nothing", "NoArrow", "NoText", "NoRoom")
# Small enough that all lists of slants, and all lists of joins, can be gone through.
MOST_JOINED = {2: 6, 3: 4, 5: 2, 7: 2}


def all_loads(p, long):
    return list(itertools.product(range(p), repeat=long))


def some_rows(seed, p, high, wide):
    source = random.Random(f"{seed} {p} {high} {wide}")
    return tuple(tuple(source.randrange(p) for _ in range(wide)) for _ in range(high))


def some_table(seed, p, high, wide):
    return (high, wide, some_rows(seed, p, high, wide))


def all_tables(p, high, wide):
    for numbers in all_loads(p, high * wide):
        yield (high, wide, tuple(numbers[i * wide:(i + 1) * wide] for i in range(high)))


def units(long):
    """The base of all loads of so many numbers."""
    return [tuple(int(i == j) for j in range(long)) for i in range(long)]


def units_table(many):
    """The same table of a size."""
    return (many, many, tuple(units(many)))


def plainly_led(p, table, load):
    """Point 5 word by word."""
    high, wide, rows = table
    return tuple(sum(rows[i][j] * load[j] for j in range(wide)) % p for i in range(high))


def plainly_product(p, one, other):
    high, middle, wide = one[0], one[1], other[1]
    return (high, wide, tuple(
        tuple(sum(one[2][i][a] * other[2][a][j] for a in range(middle)) % p for j in range(wide))
        for i in range(high)))


def span(p, long, loads):
    """All sums of multiples, one by one."""
    found = {(0,) * long}
    for load in loads:
        found = {
            tuple((x + times * y) % p for x, y in zip(one, load))
            for one in found for times in range(p)
        }
    return found


def is_base(p, long, loads):
    """The form that point 7 asks of a base."""
    if not isinstance(loads, list):
        return False
    leads = []
    for load in loads:
        if not isinstance(load, tuple) or len(load) != long:
            return False
        if not all(type(x) is int and 0 <= x < p for x in load) or not any(load):
            return False
        lead = next(k for k, x in enumerate(load) if x)
        if load[lead] != 1:
            return False
        leads.append(lead)
    if leads != sorted(set(leads)):
        return False
    # Rests are never below 0, so a sum of 1 leaves 0 for all loads but the lead's own.
    return all(sum(load[lead] for load in loads) == 1 for lead in leads)


def all_bases(p, long):
    """The bases of all spaces of loads of so many numbers."""
    loads = [load for load in reversed(all_loads(p, long)) if is_base(p, long, [load])]
    for size in range(long + 1):
        for base in itertools.combinations(loads, size):
            if is_base(p, long, list(base)):
                yield list(base)


def is_table(p, table):
    """The form that point 5 asks of a table, with whole numbers alone."""
    if type(table) is not tuple or len(table) != 3:
        return False
    high, wide, rows = table
    if type(high) is not int or type(wide) is not int or type(rows) is not tuple:
        return False
    return len(rows) == high and all(
        type(row) is tuple and len(row) == wide and all(type(x) is int and 0 <= x < p for x in row)
        for row in rows)


def all_kinds(most=6):
    """The ways of all rows of one to so many rooms."""
    return ["".join(ways) for many in range(most) for ways in itertools.product("rl", repeat=many)]


def some_widths(seed, many, most=3):
    source = random.Random(f"widths {seed} {many}")
    return tuple(source.randrange(most + 1) for _ in range(many))


def rooms_of(k, way):
    """The beginning and the end of arrow number k, as point 10 tells them."""
    return {"r": (k, k + 1), "l": (k + 1, k)}[way]


def some_row(seed, p, ways, widths):
    """A row of these ways and widths, put together without the program."""
    arrows = []
    for k, way in enumerate(ways):
        begin, end = rooms_of(k, way)
        arrows.append((way, some_table(f"{seed} {k}", p, widths[end], widths[begin])))
    return (p, tuple(widths), tuple(arrows))


def some_rows_of_rooms(p, most=6):
    """A row of each kind, with widths of 0 among them, and one without any numbers."""
    for at, ways in enumerate(all_kinds(most)):
        yield some_row("row", p, ways, some_widths(at, len(ways) + 1))
    for many in range(1, most + 1):
        yield some_row("noughts", p, ("rl" * 3)[:many - 1], (0,) * many)


def is_row(row):
    """The form that point 10 asks of a row, with whole numbers alone."""
    if type(row) is not tuple or len(row) != 3:
        return False
    p, widths, arrows = row
    if type(p) is not int or p not in PRIMES or type(widths) is not tuple or type(arrows) is not tuple:
        return False
    if not all(type(width) is int and width >= 0 for width in widths):
        return False
    if not 1 <= len(widths) <= 6 or sum(widths) > 30 or len(arrows) != len(widths) - 1:
        return False
    for k, arrow in enumerate(arrows):
        if type(arrow) is not tuple or len(arrow) != 2 or arrow[0] not in ("r", "l"):
            return False
        begin, end = rooms_of(k, arrow[0])
        if not is_table(p, arrow[1]) or arrow[1][:2] != (widths[end], widths[begin]):
            return False
    return True


def some_turn(seed, p, many):
    """A square table that has a back, and the back, both put together step by step without the program."""
    source = random.Random(f"turn {seed} {p} {many}")
    turn = [[int(i == j) for j in range(many)] for i in range(many)]
    back = [list(line) for line in turn]
    for _ in range(4 * many):
        i, j = source.randrange(many), source.randrange(many)
        if i != j:
            much = source.randrange(p)
            turn[i] = [(x + much * y) % p for x, y in zip(turn[i], turn[j])]
            for line in back:
                line[j] = (line[j] - much * line[i]) % p
        else:
            much = source.randrange(1, p)
            turn[i] = [much * x % p for x in turn[i]]
            for line in back:
                line[i] = pow(much, -1, p) * line[i] % p
    return (many, many, tuple(map(tuple, turn))), (many, many, tuple(map(tuple, back)))


def some_turns(seed, row):
    made = [some_turn(f"{seed} {k}", row[0], width) for k, width in enumerate(row[1])]
    return [turn for turn, _ in made], [back for _, back in made]


def plainly_in_turns(row, turns, backs):
    """Point 12 word by word."""
    p, widths, arrows = row
    made = []
    for k, (way, table) in enumerate(arrows):
        begin, end = rooms_of(k, way)
        made.append((way, plainly_product(p, plainly_product(p, turns[end], table), backs[begin])))
    return (p, widths, tuple(made))


def in_some_turns(seed, row):
    return plainly_in_turns(row, *some_turns(seed, row))


def rows_of_all_tables(p, ways, widths):
    """All rows of these ways and widths."""
    tables = []
    for k, way in enumerate(ways):
        begin, end = rooms_of(k, way)
        tables.append(list(all_tables(p, widths[end], widths[begin])))
    for chosen in itertools.product(*tables):
        yield (p, widths, tuple(zip(ways, chosen)))


def stretches(many):
    return [(i, j) for i in range(many) for j in range(i, many)]


def some_bars(seed, many, together):
    """Stretches of so many rooms, in a drawn order, whose widths together are just so many."""
    source = random.Random(f"bars {seed} {many} {together}")
    bars = []
    while together:
        i, j = source.choice([(i, j) for i, j in stretches(many) if j - i < together])
        # Some come several times.
        for _ in range(source.choice((1, 1, 2))):
            if j - i < together:
                bars.append((i, j))
                together -= j - i + 1
    source.shuffle(bars)
    return bars


def plainly_bar_row(p, ways, bars):
    """Point 19 word by word."""
    listed = list(enumerate(sorted(bars)))
    rooms = [[at for at, (i, j) in listed if i <= room <= j] for room in range(len(ways) + 1)]
    arrows = []
    for k, way in enumerate(ways):
        begin, end = (rooms[room] for room in rooms_of(k, way))
        arrows.append((way, (len(end), len(begin), tuple(tuple(int(x == y) for y in begin) for x in end))))
    return (p, tuple(len(room) for room in rooms), tuple(arrows))


def turned_row(seed, p, ways, bars):
    """The row of these bars put in drawn turns, all without the program."""
    return in_some_turns(seed, plainly_bar_row(p, ways, bars))


def turned_bars(seed, p, ways, together):
    """Drawn bars, and their row put in drawn turns, all without the program."""
    bars = some_bars(seed, len(ways) + 1, together)
    return bars, turned_row(seed, p, ways, bars)


def is_way(one, other, tables):
    """Point 22 word by word."""
    p, ones, arrows = one
    if type(tables) is not list or len(tables) != len(ones):
        return False
    for wide, high, table in zip(ones, other[1], tables):
        if not is_table(p, table) or table[:2] != (high, wide):
            return False
    for k, (way, table) in enumerate(arrows):
        begin, end = rooms_of(k, way)
        if plainly_product(p, tables[end], table) != plainly_product(p, other[2][k][1], tables[begin]):
            return False
    return True


@functools.lru_cache(None)
def bar_ways_one_by_one(ways, one, other):
    """The size of the space of the ways from bar to bar, found by going through all lists of rests by 2."""
    def has(bar, *rooms):
        return all(bar[0] <= room <= bar[1] for room in rooms)

    found = 0
    common = [room for room in range(len(ways) + 1) if has(one, room) and has(other, room)]
    for numbers in itertools.product((0, 1), repeat=len(common)):
        there = dict(zip(common, numbers))
        ends = [(there.get(end, 0) * has(one, begin, end), there.get(begin, 0) * has(other, begin, end))
                for begin, end in (rooms_of(k, way) for k, way in enumerate(ways))]
        found += all(left == right for left, right in ends)
    return found.bit_length() - 1


def ways_by_bars(ways, ones, others):
    """Point 24: the sum over all bars of the one and all bars of the other."""
    return sum(bar_ways_one_by_one(ways, one, other) for one, other in itertools.product(ones, others))


def ways_in(row):
    return "".join(way for way, _ in row[2])


def join_sizes(under, upper):
    """The high and the wide of each arrow's join, as point 26 tells them."""
    rooms = [rooms_of(k, way) for k, way in enumerate(ways_in(under))]
    return [(under[1][end], upper[1][begin]) for begin, end in rooms]


def some_joins(seed, under, upper):
    return [some_table(f"join {seed} {k}", under[0], *size) for k, size in enumerate(join_sizes(under, upper))]


def nought_joins(under, upper):
    return [(high, wide, ((0,) * wide,) * high) for high, wide in join_sizes(under, upper)]


def numbers_of(sizes):
    return sum(high * wide for high, wide in sizes)


def all_lists_of_tables(p, sizes):
    return [list(tables) for tables in itertools.product(*(list(all_tables(p, *size)) for size in sizes))]


def less(p, one, other):
    return one[:2] + (tuple(tuple((x - y) % p for x, y in zip(a, b)) for a, b in zip(one[2], other[2])),)


def slanted(under, upper, slants):
    """The joins that these slants make fall apart, as point 27 tells them."""
    p = under[0]
    made = []
    for k, way in enumerate(ways_in(under)):
        begin, end = rooms_of(k, way)
        made.append(less(p, plainly_product(p, under[2][k][1], slants[begin]),
                         plainly_product(p, slants[end], upper[2][k][1])))
    return made


def small_pairs(p, seeds):
    """Rows of one kind between which there are few slants and few joins; rooms are emptied until it is so."""
    for ways, seed in itertools.product(all_kinds(), range(seeds)):
        widths = [list(some_widths(f"{side} {seed} {ways}", len(ways) + 1)) for side in ("under", "upper")]
        rows = None
        while rows is None or max(numbers_of(join_sizes(*rows)), numbers_of(zip(*widths))) > MOST_JOINED[p]:
            if rows:
                wider = max(widths, key=max)
                wider[wider.index(max(wider))] -= 1
            rows = [some_row(f"{side} {seed}", p, ways, wide) for side, wide in zip(("under", "upper"), widths)]
        yield tuple(rows)


def wide_pairs(p):
    """Rows of each kind that together have up to thirty numbers."""
    for ways in all_kinds():
        many = len(ways) + 1
        for seed in range(2):
            most = 14 // many
            yield tuple(some_row(f"{side} {seed}", p, ways, some_widths(f"wide {side} {seed} {ways}", many, most))
                        for side in ("under", "upper"))


def turns_of(ways):
    """The rooms that are an end, and those that are a beginning, as point 29 tells them."""
    leads = [rooms_of(k, way) for k, way in enumerate(ways)]
    rooms = range(len(ways) + 1)
    ends = [room for room in rooms if all(end == room for begin, end in leads if room in (begin, end))]
    beginnings = [room for room in rooms if all(begin == room for begin, end in leads if room in (begin, end))]
    return ends, beginnings


def turning_rooms(ways):
    ends, beginnings = turns_of(ways)
    return sorted(set(ends + beginnings))


class Refusing:
    """Looks at refusals; a test case stands beside it."""

    def refused(self, name, told, ask, *handed):
        """That ask refuses with the class of this name, which tells just the fields told."""
        with self.assertRaises(ValueError, msg=handed) as caught:
            ask(*handed)
        made = caught.exception
        self.assertIsInstance(made, errors.SplitError, handed)
        for other in REFUSALS:
            self.assertEqual(isinstance(made, getattr(errors, other)), other == name, (handed, repr(made)))
        fields = {field: getattr(made, field) for field in ("at", "room") if hasattr(made, field)}
        self.assertEqual(fields, told, handed)
