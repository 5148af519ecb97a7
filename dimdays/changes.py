"""How little must have changed between two times at which a day was seen."""

from dimdays.letters import KINDS, day_read
from dimdays.looks import check_looks
from dimdays.ways import closing_ways


def _cost(letter, other, is_same):
    """Return how many meetings two letters of a tick tell to be in one day only, and whether both are in the same one.

    `is_same` is whether the days are in meetings that are the same as far as they were read.
    """
    if letter == other:
        return 0, (is_same if letter == "on" else letter in KINDS)
    cost = len([one for one in (letter, other) if one in KINDS])
    if is_same and "on" in (letter, other):
        # One of the meetings that were the same until here ends, and the other one goes on.
        cost += 2
    return cost, False


def _pairs_behind(row, later):
    """Return for all pairs of letters that lead on from two nodes (letters, nodes behind them)."""
    return [((letter, other), (reached, ended)) for letter, reached in row for other, ended in later]


def _step(rows, later, here):
    """Return the keys behind a tick: the least number of changes with which each is reached, and how."""
    told = {}
    for key, reached in here.items():
        node, end, is_same = key
        for letters, nodes in _pairs_behind(rows[node], later[end]):
            cost, is_still = _cost(letters[0], letters[1], is_same)
            behind, many = (*nodes, is_still), reached[0] + cost
            if behind not in told or told[behind][0] > many:
                told[behind] = (many, key, letters)
    return told


def _searched(frame, looks, later):
    """Return for each tick the keys behind it, first those ahead of all; a key is a pair of nodes and `is_same`."""
    ways, others = closing_ways(frame, looks), closing_ways(frame, later)
    here = {(node, end, False): (0, None, None) for node in range(len(ways[0])) for end in range(len(others[0]))}
    told = [here]
    for rows, behind in zip(ways[:-1], others[:-1]):
        here = _step(rows, behind, here)
        told.append(here)
    return told


def _best_key(last):
    """Return the key behind the last tick that is reached with the fewest changes, or None."""
    return min(list(last), key=lambda key: last[key][0], default=None)


def _checked(looks, later):
    check_looks(looks)
    check_looks(later)


def least_change(frame, looks, later):
    """Return the least number of meetings in only one of two days that fit earlier and later looks, or None."""
    _checked(looks, later)
    last = _searched(frame, looks, later)[-1]
    key = _best_key(last)
    return None if key is None else last[key][0]


def change(frame, looks, later):
    """Return some pair of days that fit earlier and later looks, with the fewest meetings in only one, or None."""
    _checked(looks, later)
    told = _searched(frame, looks, later)
    key = _best_key(told[-1])
    if key is None:
        return None
    pairs = []
    for lot in reversed(list(told[1:])):
        _, key, letters = lot[key]
        pairs.append(letters)
    pairs = pairs[::-1]
    return day_read([letter for letter, _ in pairs]), day_read([other for _, other in pairs])
