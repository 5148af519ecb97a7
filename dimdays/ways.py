"""The ways through the net: all rows of letters that lead from the first standing to one that closes.

A node (going, run, many, states) stands for all standings that are alike from there on: `states` are those of the
machines of all looks and words.
"""

from dimdays.frames import Frame
from dimdays.letters import FIRST_HEAD, LETTERS, is_let, is_long_enough, next_head
from dimdays.machines import DEAD, Machine, make_moves
from dimdays.making import make_makers


def _without_idle_most(frame):
    """Return a frame that lets the same days, without a greatest number that no day can come up to."""
    if frame.most is None or frame.most < frame.length // frame.shortest:
        return frame
    return Frame(frame.length, frame.shortest, None, frame.private, frame.known)


class Walker:
    """Leads from node to node."""

    def __init__(self, frame, looks):
        makers = [maker for pair in make_makers(looks) for maker in pair]
        moves = [make_moves(maker) for maker in makers]
        self.frame = _without_idle_most(frame)
        self.machines = [Machine(maker, frame.length) for maker in makers]
        self.first = (*FIRST_HEAD, tuple([machine.first for machine in self.machines]))
        self.moves = {}
        for going in ("", "busy", "private"):
            for letter in LETTERS:
                self.moves[going, letter] = [move[going, letter] for move in moves]

    def letters_at(self, tick):
        """Return the letters that the frame lets a tick have."""
        return [letter for letter in LETTERS if is_let(self.frame, tick, letter)]

    def tables_at(self, tick):
        """Return the tables of all machines at a tick."""
        return [machine.tables[tick] for machine in self.machines]

    def pairs_ahead(self, letters, tables, node):
        """Return the pairs (letter, node behind it) that lead on from a node."""
        going, run, many, states = node
        told = []
        for letter in letters:
            head = next_head(self.frame, (going, run, many), letter)
            if head is not None:
                moves = self.moves[going, letter]
                behind = tuple([table[state][move] for table, state, move in zip(tables, states, moves)])
                if DEAD not in behind:
                    told.append((letter, (*head, behind)))
        return told

    def is_closing(self, node):
        """Tell whether a node behind all ticks closes; those with a dead state were left out."""
        going, run, many, _ = node
        return is_long_enough(self.frame, (going, run, many))


def _all_ways(walker):
    """Return for each tick the nodes that are reached, with their pairs, and behind it those that close."""
    told = []
    here = {} if DEAD in walker.first[3] else {walker.first: True}
    for tick in range(walker.frame.length):
        letters, tables = walker.letters_at(tick), walker.tables_at(tick)
        ahead = {node: walker.pairs_ahead(letters, tables, node) for node in here}
        here = {node: True for pairs in ahead.values() for _, node in pairs}
        told.append(ahead)
    told.append({node: [] for node in here if walker.is_closing(node)})
    return told


def _kept(ahead, behind):
    """Return the nodes ahead of a tick from which a pair leads to one of the nodes behind it, with such pairs."""
    told = {}
    for node, pairs in ahead.items():
        kept = [(letter, reached) for letter, reached in pairs if reached in behind]
        if len(kept) > 0:
            told[node] = kept
    return told


def closing_ways(frame, looks):
    """Return, ahead of each tick and behind the last one, the nodes on ways that close, each with its pairs.

    The first node is the only one ahead of the first tick; if no day fits, there is no node anywhere.
    """
    lots = _all_ways(Walker(frame, looks))
    for tick in reversed(range(frame.length)):
        lots[tick] = _kept(lots[tick], lots[tick + 1])
    return lots
