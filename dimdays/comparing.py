"""Rules compared by what they show of all days of a frame."""

from dimdays.letters import day_read
from dimdays.viewing import views_told
from dimdays.ways import closing_ways


def views(frame, rule):
    """Return all views that days of a frame have by a rule, with how many days have each."""
    told = views_told(closing_ways(frame, ()), [rule])
    return tuple(sorted([(row[0], many) for row, (many, _) in told.items()]))


def _parted_letters(frame, p, q):
    """Return the letters of two days that one rule shows alike and the other one does not, or None."""
    firsts = {}
    for (view, other), (_, letters) in views_told(closing_ways(frame, ()), [p, q]).items():
        told, ahead = firsts.setdefault(view, (other, letters))
        if told != other:
            return ahead, letters
    return None


def finer(frame, p, q):
    """Tell whether any two days of a frame that one rule shows alike are shown alike by the other one, too."""
    return _parted_letters(frame, p, q) is None


def parting(frame, p, q):
    """Return some pair of days of a frame that one rule shows alike and the other one does not, or None."""
    letters = _parted_letters(frame, p, q)
    return None if letters is None else (day_read(letters[0]), day_read(letters[1]))
