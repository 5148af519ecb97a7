"""What is known of a day: whether it fits, some day that does, and how many do."""

from dimdays.counting import count_ways
from dimdays.letters import day_read
from dimdays.looks import check_looks
from dimdays.showing import show
from dimdays.ways import closing_ways


def is_fit(frame, looks, day):
    """Tell whether a day fits."""
    check_looks(looks)
    return frame.lets(day) and all([show(rule, day) == view for rule, view in looks])


def fits(frame, looks):
    """Tell whether some day fits."""
    check_looks(looks)
    return len(closing_ways(frame, looks)[0]) > 0


def _some_letters(ways):
    """Return the letters of some way; there must be one."""
    node = 0
    letters = []
    for rows in ways[:-1]:
        letter, node = rows[node][0]
        letters.append(letter)
    return letters


def a_day(frame, looks):
    """Return some day that fits, or None."""
    check_looks(looks)
    ways = closing_ways(frame, looks)
    if len(ways[0]) == 0:
        return None
    return day_read(_some_letters(ways))


def many_days(frame, looks):
    """Return how many days fit."""
    check_looks(looks)
    return count_ways(closing_ways(frame, looks))
