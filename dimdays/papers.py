"""Papers that show that a tick is taken, or free, in all days that fit, and that anybody can check."""

from dimdays.letters import KINDS, LETTERS, is_let
from dimdays.looks import check_looks
from dimdays.making import make_makers
from dimdays.plain import is_number
from dimdays.standings import first_standing, is_closing, next_standing


def _letters_let(frame, at):
    """Return the letters that a frame lets a tick have."""
    return [letter for letter in LETTERS if is_let(frame, at, letter)]


def _letters_asked(frame, at, tick, is_taken):
    """Return the letters that are looked at: with the tick that is asked about, the other way round only."""
    letters = _letters_let(frame, at)
    if at != tick:
        return letters
    return [letter for letter in letters if (letter == "free") == is_taken]


def _pairs_behind(frame, makers, at, standing, letters):
    """Return the pairs (letter, standing behind it) of those of the letters that are possible."""
    behind = [(letter, next_standing(frame, makers, at, standing, letter)) for letter in letters]
    return [pair for pair in behind if pair[1] is not None]


def _lot_behind(frame, makers, at, lot, letters):
    """Return all standings to which some letters lead from those of a lot, as a dict."""
    told = {}
    for standing in lot:
        for _, behind in _pairs_behind(frame, makers, at, standing, letters):
            told[behind] = True
    return told


def _closes_any(frame, makers, lot):
    return any([is_closing(frame, makers, standing) for standing in lot])


def paper(frame, looks, tick, is_taken):
    """Return some right paper that shows that a tick is taken, or free, or None if there is none."""
    check_looks(looks)
    makers = make_makers(looks)
    # The least lots that can be right are those of all standings that are led to.
    lots = [{first_standing(looks): True}]
    for at in range(frame.length):
        lots.append(_lot_behind(frame, makers, at, lots[at], _letters_asked(frame, at, tick, is_taken)))
    if _closes_any(frame, makers, lots[-1]):
        return None
    return tuple([tuple(lot) for lot in lots])


def _is_block(value):
    """Tell whether any value has the form of a block that is being made, or of none."""
    if value is None:
        return True
    return isinstance(value, tuple) and len(value) == 2 and all([is_number(end) for end in value])


def _is_tally(value):
    """Tell whether any value has the form of what a look makes of one word."""
    return isinstance(value, tuple) and len(value) == 2 and is_number(value[0]) and _is_block(value[1])


def _is_pair_of_tallies(value):
    """Tell whether any value has the form of what a look makes."""
    return isinstance(value, tuple) and len(value) == 2 and all([_is_tally(tally) for tally in value])


def _is_standing(value, looks):
    """Tell whether any value has just the form of a standing."""
    if not isinstance(value, tuple) or len(value) != 4:
        return False
    going, run, many, making = value
    if going != "" and going not in KINDS:
        return False
    if not is_number(run) or not is_number(many):
        return False
    return isinstance(making, tuple) and len(making) == len(looks) and all([_is_pair_of_tallies(one) for one in making])


def _has_form(value, frame, looks):
    """Tell whether any value has the form of a paper: lots of standings, one more than there are ticks."""
    if not isinstance(value, tuple) or len(value) != frame.length + 1:
        return False
    if not all([isinstance(lot, tuple) for lot in value]):
        return False
    return all([_is_standing(standing, looks) for lot in value for standing in lot])


def _are_all_in(standings, lot):
    return all([standing in lot for standing in standings])


def _reached_behind(frame, makers, at, reached, lots, asked):
    """Return all standings that come about behind a tick, as those ahead of it are told, or None if the lots are wrong.

    They are wrong if one of the letters that are looked at leads from a lot to a standing that the next one lacks.
    """
    letters = _letters_let(frame, at)
    told = {}
    for standing in reached:
        is_there = standing in lots[at]
        for letter, behind in _pairs_behind(frame, makers, at, standing, letters):
            if is_there and letter in asked and behind not in lots[at + 1]:
                return None
            told[behind] = True
    return told


def _is_right(frame, looks, tick, is_taken, lots):
    """Tell whether lots of standings of the right form make a right paper."""
    makers = make_makers(looks)
    reached = {first_standing(looks): True}
    if not _are_all_in(reached, lots[0]):
        return False
    for at in range(frame.length):
        if not _are_all_in(lots[at], reached):
            return False
        reached = _reached_behind(frame, makers, at, reached, lots, _letters_asked(frame, at, tick, is_taken))
        if reached is None:
            return False
    return _are_all_in(lots[-1], reached) and not _closes_any(frame, makers, lots[-1])


def paper_holds(frame, looks, tick, is_taken, value):
    """Tell whether any value is a right paper that shows that a tick is taken, or free."""
    check_looks(looks)
    if not _has_form(value, frame, looks):
        return False
    lots = [{standing: True for standing in lot} for lot in value]
    return _is_right(frame, looks, tick, is_taken, lots)
