"""The letters by which a day is read, and what they tell of its meetings.

A head is the part (going, run, many) of a standing.
"""

from dimdays.days import Day

LETTERS = ("free", "busy", "private", "on")
# The letters with which a meeting begins.
KINDS = ("busy", "private")
FIRST_HEAD = ("", 0, 0)


def is_let(frame, tick, letter):
    """Tell whether a frame lets a tick have a letter, whatever was read ahead of it."""
    if letter == "private" and not frame.private:
        return False
    is_taken = letter != "free"
    return all([told == is_taken for at, told in frame.known if at == tick])


def _begun_head(frame, many, letter):
    """Return the head behind a tick with which a meeting begins, or None if it would be one too many."""
    if frame.most is None:
        return letter, 1, 0
    if many >= frame.most:
        return None
    return letter, 1, many + 1


def is_long_enough(frame, head):
    """Tell whether the meeting that is going on, if there is one, may end."""
    going, run, _ = head
    return going == "" or run == frame.shortest


def going_behind(going, letter):
    """Return the kind of the meeting that is going on behind a letter, or "" without one."""
    if letter == "on":
        return going
    return "" if letter == "free" else letter


def next_head(frame, head, letter):
    """Return the head behind a letter, or None if its meetings do not let the letter be."""
    going, run, many = head
    if letter == "on":
        return None if going == "" else (going, min(run + 1, frame.shortest), many)
    if not is_long_enough(frame, head):
        return None
    if letter == "free":
        return "", 0, many
    return _begun_head(frame, many, letter)


def day_read(letters):
    """Return the day that a row of letters tells."""
    meetings = []
    for tick, letter in enumerate(letters):
        if letter == "on":
            begin, _, is_private = meetings[-1]
            meetings[-1] = (begin, tick + 1, is_private)
        elif letter != "free":
            meetings.append((tick, tick + 1, letter == "private"))
    return Day(len(letters), meetings)
