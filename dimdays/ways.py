"""The ways through the net: all rows of letters that lead from the first standing to one that closes.

Ways are told by a list that has ahead of each tick, and behind the last one, a list of rows: one for each node there,
with pairs (letter, index of the node behind it). Each node lies on a way that closes, nodes from which the same rows
of letters lead on are one, and no two pairs of a row have the same letter. So there is one node ahead of the first
tick and one behind the last one, or none anywhere if no day fits.
"""

from dimdays.frames import Frame
from dimdays.letters import FIRST_HEAD, LETTERS, going_behind, is_let, is_long_enough, next_head
from dimdays.machines import DEAD, Machine
from dimdays.making import make_makers


def _explored(length, first, pairs_ahead):
    """Return the rows of all nodes that are reached from a first one, and the nodes behind the last tick.

    `pairs_ahead(tick, node)` tells the pairs (letter, node behind it) that lead on from a node.
    """
    lots = []
    here = {first: 0}
    for tick in range(length):
        lot, behind = [], {}
        for node in here:
            pairs = pairs_ahead(tick, node)
            lot.append([(letter, behind.setdefault(reached, len(behind))) for letter, reached in pairs])
        lots.append(lot)
        here = behind
    return lots, list(here)


def _index_of(row, numbers, found):
    """Return the index in `found` of what a row is when the nodes behind it are merged, or None if none closes."""
    told = tuple([(letter, numbers[node]) for letter, node in row if numbers[node] is not None])
    if len(told) == 0:
        return None
    return found.setdefault(told, len(found))


def _merged(lots, are_closing):
    """Return the ways that nodes with these rows tell; `are_closing` is for each node behind the last tick."""
    ways = [[()] if True in are_closing else []]
    numbers = [0 if is_closing else None for is_closing in are_closing]
    for lot in reversed(list(lots)):
        found = {}
        numbers = [_index_of(row, numbers, found) for row in lot]
        ways.append(list(found))
    return ways[::-1]


def _without_idle_most(frame):
    """Return a frame that lets the same days, without a greatest number that no day can come up to."""
    if frame.most is None or frame.most < frame.length // frame.shortest:
        return frame
    return Frame(frame.length, frame.shortest, None, frame.private, frame.known)


def _frame_ways(frame):
    """Return the ways of all days that a frame lets."""
    plain = _without_idle_most(frame)
    letters = [[letter for letter in LETTERS if is_let(plain, tick, letter)] for tick in range(plain.length)]

    def pairs_ahead(tick, head):
        behind = [(letter, next_head(plain, head, letter)) for letter in letters[tick]]
        return [pair for pair in behind if pair[1] is not None]

    lots, heads = _explored(plain.length, FIRST_HEAD, pairs_ahead)
    return _merged(lots, [is_long_enough(plain, head) for head in heads])


def _ways_let(ways, machine):
    """Return those of the ways that a machine lets."""
    tables, moves = machine.tables, machine.moves

    def pairs_ahead(tick, key):
        node, going, state = key
        row = tables[tick][state]
        told = []
        for letter, reached in ways[tick][node]:
            behind = row[moves[going, letter]]
            if behind != DEAD:
                told.append((letter, (reached, going_behind(going, letter), behind)))
        return told

    lots, last = _explored(len(tables), (0, "", machine.first), pairs_ahead)
    return _merged(lots, [True for _ in last])


def _unlike(looks):
    """Return the looks without those that stand there again."""
    kept = []
    for look in looks:
        if look not in kept:
            kept.append(look)
    return kept


def closing_ways(frame, looks):
    """Return the ways of all days that fit."""
    makers = [maker for pair in make_makers(_unlike(looks)) for maker in pair if not maker.is_idle(frame)]
    machines = [Machine(maker, frame.length) for maker in makers]
    if DEAD in [machine.first for machine in machines]:
        return [[] for _ in range(frame.length + 1)]
    ways = _frame_ways(frame)
    # The ways stay few if the machines that let the fewest things come first.
    for machine in sorted(machines, key=lambda one: one.size):
        if len(ways[0]) > 0:
            ways = _ways_let(ways, machine)
    return ways
