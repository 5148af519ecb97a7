"""Machines: the tallies of one word of a look, with those taken together that behave alike from there on.

At each tick the states of a machine are numbered anew. Tallies have the same state if no further letters tell them
apart, so there are far fewer states than tallies; and a tally that cannot close has the state DEAD.
"""

from dimdays.making import FIRST_TALLY

DEAD = 0
DONE = 1

# What a tick can mean to a machine: the places in the rows of its tables.
RESTS = 0
STARTS = 1
GOES_ON = 2


def _tallies_behind(maker, tally, tick):
    """Return what becomes of a tally in each of the three ways, None where this is not possible."""
    return tally, maker.started(tally, tick), maker.gone_on(tally, tick)


def _tallies(maker, length):
    """Return for each tick what becomes of each tally ahead of it, and the tallies behind the last one."""
    told = []
    here = {FIRST_TALLY: True}
    for tick in range(length):
        behind = {tally: _tallies_behind(maker, tally, tick) for tally in here}
        here = {tally: True for three in behind.values() for tally in three if tally is not None}
        told.append(behind)
    return told, list(here)


def _numbered(behind, states):
    """Return the states of the tallies ahead of a tick, and its table, from the states of those behind it."""
    numbers = {(DEAD, DEAD, DEAD): DEAD}
    told = {}
    for tally, three in behind.items():
        row = tuple([states.get(one, DEAD) for one in three])
        told[tally] = numbers.setdefault(row, len(numbers))
    return told, list(numbers)


def _moves(maker):
    """Return what each letter, behind each kind of meeting that is going on, means to a maker's machine."""
    moves = {}
    for going in ("", "busy", "private"):
        moves[going, "free"] = RESTS
        moves[going, "on"] = GOES_ON if going != "" and maker.takes(going) else RESTS
        for kind in ("busy", "private"):
            moves[going, kind] = STARTS if maker.takes(kind) else RESTS
    return moves


class Machine:
    """A maker's first state, its moves, and for each tick the rows with the states to which each state leads."""

    def __init__(self, maker, length):
        told, last = _tallies(maker, length)
        states = {tally: DONE if maker.is_done(tally) else DEAD for tally in last}
        tables = []
        for behind in reversed(list(told)):
            states, table = _numbered(behind, states)
            tables.append(table)
        self.tables = tables[::-1]
        self.first = states[FIRST_TALLY]
        self.moves = _moves(maker)
        self.size = sum([len(table) for table in tables])
