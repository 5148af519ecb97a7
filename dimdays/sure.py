"""What is sure of a day: ticks that are free or taken in all days that fit, and how often slots are free."""

from dimdays.counting import count_ways, counts_free
from dimdays.errors import InvalidSlot
from dimdays.looks import check_looks
from dimdays.plain import is_number
from dimdays.ways import closing_ways


def check_slot(frame, begin, end):
    """Raise the error about slots if any two values tell none of a frame's days."""
    if not is_number(begin) or not is_number(end) or begin >= end or end > frame.length:
        raise InvalidSlot()


def _letters_told(rows):
    return [letter for row in rows for letter, _ in row]


def sure(frame, looks):
    """Return the ticks that are free, and those that are taken, in all days that fit, or None if none fits."""
    check_looks(looks)
    ways = closing_ways(frame, looks)
    if len(ways[0]) == 0:
        return None
    letters = [_letters_told(rows) for rows in ways[:-1]]
    free = [tick for tick, told in enumerate(letters) if all([letter == "free" for letter in told])]
    taken = [tick for tick, told in enumerate(letters) if "free" not in told]
    return tuple(free), tuple(taken)


def slot_word(many, many_free):
    """Return what `slot` tells of a slot that is free in so many of so many days, or None if there are none."""
    if many == 0:
        return None
    if many_free == 0:
        return "never"
    return "always" if many_free == many else "sometimes"


def slot(frame, looks, begin, end):
    """Return whether a slot is free in all, in none, or in some of the days that fit, or None if none fits."""
    check_looks(looks)
    check_slot(frame, begin, end)
    ways = closing_ways(frame, looks)
    return slot_word(count_ways(ways), counts_free(ways, [(begin, end)])[0])


def free_days(frame, looks, begin, end):
    """Return in how many of the days that fit a slot is free."""
    check_looks(looks)
    check_slot(frame, begin, end)
    return counts_free(closing_ways(frame, looks), [(begin, end)])[0]


def best_slots(frame, looks, size):
    """Return the begins of all slots of so many ticks that are free in the most of the days that fit."""
    check_looks(looks)
    slots = [(begin, begin + size) for begin in range(frame.length - size + 1)]
    counts = counts_free(closing_ways(frame, looks), slots)
    most = max(counts)
    return tuple([begin for begin, many in enumerate(counts) if many == most])
