"""Papers of rows looked at."""

from barsplit.bars import is_stretch, row_of_bars
from barsplit.rows import in_turns, ways_of
from barsplit.tables import product, same_table


def are_bars(many, bars):
    """Whether bars are a sorted list of stretches of so many rooms."""
    if not all([isinstance(bar, tuple) and is_stretch(many, bar) for bar in bars]):
        return False
    return bars == sorted(bars)


def is_turn(p, width, turn, back):
    """Whether turn and back are square tables of this width that undo one another."""
    size = (width, width)
    if turn[:2] != size or back[:2] != size:
        return False
    # A square table that undoes another one from one side does so from the other side too.
    return product(p, turn, back) == same_table(width)


def are_turns(row, turns, backs):
    """Whether the rooms of the row may be put in these turns, with these backs."""
    many = len(row[1])
    if len(turns) != many or len(backs) != many:
        return False
    return all([is_turn(row[0], width, turn, back) for width, turn, back in zip(row[1], turns, backs)])


def shows_bars(row, paper):
    """Whether a tuple (bars, turns, backs) is a paper of the row."""
    bars = paper[0]
    turns = paper[1]
    backs = paper[2]
    if not are_bars(len(row[1]), bars) or not are_turns(row, turns, backs):
        return False
    # A row has the same numbers in whatever turns, so no other bars than its own pass this.
    return in_turns(row, turns, backs) == row_of_bars(row[0], ways_of(row), bars)
