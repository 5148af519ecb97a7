"""The net of standings by which a day is read tick by tick."""

from dimdays.letters import is_let
from dimdays.looks import check_looks
from dimdays.making import make_makers
from dimdays.standings import first_standing, is_closing, next_standing
from dimdays.ways import closing_ways


def begun(frame, looks):
    """Return the first standing."""
    check_looks(looks)
    return first_standing(looks)


def after(frame, looks, tick, standing, letter):
    """Return the standing behind a tick with a letter, or None if this is not possible."""
    check_looks(looks)
    if not is_let(frame, tick, letter):
        return None
    return next_standing(frame, make_makers(looks), tick, standing, letter)


def closes(frame, looks, standing):
    """Tell whether a standing behind all ticks closes."""
    check_looks(looks)
    return is_closing(frame, make_makers(looks), standing)


def _next_lot(frame, makers, tick, lot, rows):
    """Return the standings behind a tick, each with its node, that a lot with their nodes leads to."""
    told = {}
    for standing, node in lot.items():
        for letter, reached in rows[node]:
            told[next_standing(frame, makers, tick, standing, letter)] = reached
    return told


def _ascending(standings):
    return tuple(sorted(standings, key=lambda standing: repr(standing)))


def layers(frame, looks):
    """Return ahead of each tick, and behind the last one, all standings on ways that close, ascending by `repr`."""
    check_looks(looks)
    makers = make_makers(looks)
    ways = closing_ways(frame, looks)
    # Each standing has a node, and the letters on ways that close are those of its node.
    lot = {first_standing(looks): node for node in range(len(ways[0]))}
    lots = [lot]
    for tick in range(frame.length):
        lot = _next_lot(frame, makers, tick, lot, ways[tick])
        lots.append(lot)
    return tuple([_ascending(one) for one in lots])
