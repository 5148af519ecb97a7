"""What is known of the meetings of a day: how few and how many, where they begin and end, and which there can be."""

from dimdays.letters import KINDS
from dimdays.looks import check_looks
from dimdays.ways import closing_ways


def _least_sum(ways, worth):
    """Return the least sum of worths, one for each meeting, that a way can have; there must be a way."""
    sums = [0 for _ in ways[-1]]
    for rows in reversed(list(ways[:-1])):
        sums = [min([sums[reached] + (worth if letter in KINDS else 0) for letter, reached in row]) for row in rows]
    return sums[0]


def _least_worth(frame, looks, worth):
    """Return the least sum of worths, one for each meeting, of a day that fits, or None if none fits."""
    check_looks(looks)
    ways = closing_ways(frame, looks)
    return None if len(ways[0]) == 0 else _least_sum(ways, worth)


def fewest(frame, looks):
    """Return the least number of meetings of a day that fits, or None if none fits."""
    return _least_worth(frame, looks, 1)


def greatest(frame, looks):
    """Return the greatest number of meetings of a day that fits, or None if none fits."""
    least = _least_worth(frame, looks, -1)
    return None if least is None else -least


def _in_all_and_some(told, first):
    """Return the numbers, counted from a first one, whose lists hold True only, and those whose lists hold it."""
    in_all = [number for number, answers in enumerate(told, start=first) if all(answers)]
    in_some = [number for number, answers in enumerate(told, start=first) if any(answers)]
    return tuple(in_all), tuple(in_some)


def begins(frame, looks):
    """Return the ticks with which a meeting begins in all, and in some, of the days that fit, or None."""
    check_looks(looks)
    ways = closing_ways(frame, looks)
    if len(ways[0]) == 0:
        return None
    told = [[letter in KINDS for row in rows for letter, _ in row] for rows in ways[:-1]]
    return _in_all_and_some(told, 0)


def _letters_ahead(rows, length):
    """Return for each of so many nodes behind a tick the letters with which it is reached."""
    told = [[] for _ in range(length)]
    for row in rows:
        for letter, reached in row:
            told[reached].append(letter)
    return told


def _are_ends(rows, behind):
    """Return for each pair of a letter of a tick and a letter behind it on some way whether a meeting ends between."""
    told = []
    for letters, row in zip(_letters_ahead(rows, len(behind)), behind):
        # Behind the last tick there is no letter any more, and a meeting does not go on either.
        nexts = [letter for letter, _ in row] if len(row) > 0 else ["free"]
        told += [letter != "free" and other != "on" for letter in letters for other in nexts]
    return told


def ends(frame, looks):
    """Return the numbers at which a meeting ends in all, and in some, of the days that fit, or None."""
    check_looks(looks)
    ways = closing_ways(frame, looks)
    if len(ways[0]) == 0:
        return None
    told = [_are_ends(rows, behind) for rows, behind in zip(ways[:-1], ways[1:])]
    return _in_all_and_some(told, 1)


def _led(rows, nodes, word):
    """Return the nodes to which a letter leads from some nodes, as a dict."""
    return {reached: True for node in nodes for letter, reached in rows[node] if letter == word}


def _can_end(rows, nodes):
    """Tell whether a meeting that is going on at some nodes ends at one of them on some way."""
    letters = [[letter for letter, _ in rows[node]] for node in nodes]
    return any([told != ["on"] for told in letters])


def _meetings_from(ways, begin, kind):
    """Return all meetings of a kind that begin with a tick on some way."""
    told = []
    nodes = _led(ways[begin], list(range(len(ways[begin]))), kind)
    for end in range(begin + 1, len(ways)):
        if _can_end(ways[end], nodes):
            told.append((begin, end, kind == "private"))
        nodes = _led(ways[end], nodes, "on")
    return told


def can_be(frame, looks):
    """Return all meetings that some day that fits has."""
    check_looks(looks)
    ways = closing_ways(frame, looks)
    told = [meeting for begin in range(frame.length) for kind in KINDS for meeting in _meetings_from(ways, begin, kind)]
    return tuple(sorted(told))


def _open_meetings(frame, looks):
    """Return the pairs (begin, end) of all meetings that are not private and that some day that fits has."""
    return [(begin, end) for begin, end, is_private in can_be(frame, looks) if not is_private]


def shared(several):
    """Return all pairs (begin, end) of meetings, not private, that can be by each of several pairs (frame, looks)."""
    lists = [_open_meetings(frame, looks) for frame, looks in several]
    return tuple([pair for pair in lists[0] if all([pair in told for told in lists])])
