"""How many ways there are: from each node on, up to each node, and those on which a slot is free."""


def counts_behind(ways):
    """Return ahead of each tick, and behind the last one, how many rows of letters lead on from each node."""
    counts = [1 for _ in ways[-1]]
    told = [counts]
    for rows in reversed(list(ways[:-1])):
        counts = [sum([counts[reached] for _, reached in row]) for row in rows]
        told.append(counts)
    return told[::-1]


def count_ways(ways):
    """Return how many ways there are."""
    return sum(counts_behind(ways)[0])


def _counts_led(rows, counts, length):
    """Return how many rows of letters lead to each of so many nodes, from those that lead to the nodes ahead."""
    told = [0 for _ in range(length)]
    for row, many in zip(rows, counts):
        for _, reached in row:
            told[reached] += many
    return told


def counts_ahead(ways):
    """Return ahead of each tick, and behind the last one, how many rows of letters lead to each node."""
    told = [[1 for _ in ways[0]]]
    for rows, behind in zip(ways[:-1], ways[1:]):
        told.append(_counts_led(rows, told[-1], len(behind)))
    return told


def _led_free(rows, counts):
    """Return how many rows of letters lead to each node behind a free tick, from those that lead ahead of it."""
    told = {}
    for node, many in counts.items():
        for letter, reached in rows[node]:
            if letter == "free":
                told[reached] = told.get(reached, 0) + many
    return told


def counts_free(ways, slots):
    """Return for each of the slots (begin, end) on how many of the ways it is free."""
    ahead, behind = counts_ahead(ways), counts_behind(ways)
    told = []
    for begin, end in slots:
        counts = dict(enumerate(ahead[begin]))
        for tick in range(begin, end):
            counts = _led_free(ways[tick], counts)
        told.append(sum([many * behind[end][node] for node, many in counts.items()]))
    return told
