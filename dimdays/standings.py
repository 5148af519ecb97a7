"""Standings, and how letters lead from one to the next: what the net and the papers share."""

from dimdays.letters import FIRST_HEAD, is_long_enough, next_head
from dimdays.making import FIRST_TALLY


def first_standing(looks):
    """Return the standing ahead of the first tick."""
    return (*FIRST_HEAD, tuple([(FIRST_TALLY, FIRST_TALLY) for _ in looks]))


def _next_tally(maker, tally, tick, letter):
    """Return the tally behind a letter that speaks of a meeting of its word, or None if it is not possible."""
    return maker.gone_on(tally, tick) if letter == "on" else maker.started(tally, tick)


def _next_pair(pair, tallies, tick, letter, kind):
    """Return what one look makes behind a letter that speaks of a meeting of a kind, or None if it is not possible."""
    of_busy, of_private = pair
    busy, private = tallies
    # A meeting has at most one word.
    if of_busy.takes(kind):
        behind = _next_tally(of_busy, busy, tick, letter)
        return None if behind is None else (behind, private)
    if of_private.takes(kind):
        behind = _next_tally(of_private, private, tick, letter)
        return None if behind is None else (busy, behind)
    return tallies


def next_making(makers, making, tick, letter, kind):
    """Return what the looks make behind a letter, or None if it is not possible."""
    if letter == "free":
        return making
    told = []
    for pair, tallies in zip(makers, making):
        behind = _next_pair(pair, tallies, tick, letter, kind)
        if behind is None:
            return None
        told.append(behind)
    return tuple(told)


def next_standing(frame, makers, tick, standing, letter):
    """Return the standing behind a letter that the frame lets the tick have, or None if it is not possible."""
    going, run, many, making = standing
    head = next_head(frame, (going, run, many), letter)
    if head is None:
        return None
    made = next_making(makers, making, tick, letter, going if letter == "on" else letter)
    return None if made is None else (*head, made)


def is_closing(frame, makers, standing):
    """Tell whether a standing behind all ticks closes."""
    going, run, many, making = standing
    if not is_long_enough(frame, (going, run, many)):
        return False
    return all([maker.is_done(tally) for pair, tallies in zip(makers, making) for maker, tally in zip(pair, tallies)])
