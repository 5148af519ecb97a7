"""The net of standings by which a day is read tick by tick."""

from dimdays.letters import FIRST_HEAD, is_let, is_long_enough, next_head
from dimdays.looks import check_looks
from dimdays.making import FIRST_TALLY, make_makers
from dimdays.ways import closing_ways


def _first_standing(looks):
    return (*FIRST_HEAD, tuple([(FIRST_TALLY, FIRST_TALLY) for _ in looks]))


def _next_tally(maker, tally, tick, letter, kind):
    """Return the tally behind a letter that speaks of a meeting of a kind, or None if the letter is not possible."""
    if letter == "free" or not maker.takes(kind):
        return tally
    if letter == "on":
        return maker.gone_on(tally, tick)
    return maker.started(tally, tick)


def _next_making(makers, making, tick, letter, kind):
    """Return what the looks make behind a letter, or None if it is not possible."""
    told = []
    for pair, tallies in zip(makers, making):
        behind = [_next_tally(maker, tally, tick, letter, kind) for maker, tally in zip(pair, tallies)]
        if None in behind:
            return None
        told.append(tuple(behind))
    return tuple(told)


def _next_standing(frame, makers, tick, standing, letter):
    """Return the standing behind a letter that the frame lets the tick have, or None if it is not possible."""
    going, run, many, making = standing
    head = next_head(frame, (going, run, many), letter)
    if head is None:
        return None
    made = _next_making(makers, making, tick, letter, going if letter == "on" else letter)
    return None if made is None else (*head, made)


def begun(frame, looks):
    """Return the first standing."""
    check_looks(looks)
    return _first_standing(looks)


def after(frame, looks, tick, standing, letter):
    """Return the standing behind a tick with a letter, or None if this is not possible."""
    check_looks(looks)
    if not is_let(frame, tick, letter):
        return None
    return _next_standing(frame, make_makers(looks), tick, standing, letter)


def closes(frame, looks, standing):
    """Tell whether a standing behind all ticks closes."""
    check_looks(looks)
    going, run, many, making = standing
    if not is_long_enough(frame, (going, run, many)):
        return False
    return all([maker.is_done(tally) for pair, tallies in zip(make_makers(looks), making)
                for maker, tally in zip(pair, tallies)])


def _next_lot(frame, makers, tick, lot, nodes):
    """Return the standings behind a tick, each with its node, that a lot with their nodes leads to."""
    told = {}
    for standing, node in lot.items():
        for letter, reached in nodes[node]:
            told[_next_standing(frame, makers, tick, standing, letter)] = reached
    return told


def _ascending(standings):
    return tuple(sorted(standings, key=lambda standing: repr(standing)))


def layers(frame, looks):
    """Return ahead of each tick, and behind the last one, all standings on ways that close, ascending by `repr`."""
    check_looks(looks)
    makers = make_makers(looks)
    ways = closing_ways(frame, looks)
    # Each standing has a node, and the letters on ways that close are those of its node.
    lot = {_first_standing(looks): node for node in ways[0]}
    lots = [lot]
    for tick in range(frame.length):
        lot = _next_lot(frame, makers, tick, lot, ways[tick])
        lots.append(lot)
    return tuple([_ascending(one) for one in lots])
