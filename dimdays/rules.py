"""Rules by which days are shown."""

from dimdays.errors import InvalidRule, InvalidText
from dimdays.plain import is_number, is_positive, read_number, read_span

PRIVATE_WORDS = ("busy", "none", "apart", "one")


def _are_hours(value):
    """Tell whether any value can be the hours of a rule."""
    if value is None:
        return True
    if not isinstance(value, tuple) or len(value) != 2:
        return False
    start, till = value
    return is_number(start) and is_number(till) and start < till


def _wrong_argument(step, gap, least, private, hours):
    """Return the name of the first argument that makes no rule, or None."""
    if not is_positive(step):
        return "step"
    if not is_number(gap):
        return "gap"
    if not is_number(least):
        return "least"
    if private not in PRIVATE_WORDS:
        return "private"
    if not _are_hours(hours):
        return "hours"
    return None


def _hours_text(hours):
    if hours is None:
        return ""
    return f" hours {hours[0]}-{hours[1]}"


def _read_private(word):
    if word not in PRIVATE_WORDS:
        raise InvalidText(0)
    return word


def _read_hours(words):
    """Return the hours that the words behind those of every rule tell."""
    if len(words) == 0:
        return None
    if len(words) != 2 or words[0] != "hours":
        raise InvalidText(0)
    return read_span(words[1])


class Rule:
    """How the meetings of a day are shown as blocks."""

    def __init__(self, step=1, gap=0, least=0, private="busy", hours=None):
        wrong = _wrong_argument(step, gap, least, private, hours)
        if wrong is not None:
            raise InvalidRule(wrong)
        self.step = step
        self.gap = gap
        self.least = least
        self.private = private
        self.hours = hours

    @classmethod
    def read(cls, text):
        """Return the rule that a text tells."""
        if not isinstance(text, str):
            raise InvalidText(0)
        words = text.split(" ")
        if words[0:7:2] != ["step", "gap", "least", "private"] or len(words) < 8:
            raise InvalidText(0)
        step, gap, least = [read_number(word) for word in words[1:6:2]]
        return cls(step, gap, least, _read_private(words[7]), _read_hours(words[8:]))

    @property
    def normal(self):
        """The rule that shows every day alike, with `gap` and `least` in whole steps."""
        step = self.step
        gap = self.gap // step * step
        # No block is shorter than one step before it is cut to the hours.
        least = 0 if self.least <= step else (self.least + step - 1) // step * step
        return Rule(step, gap, least, self.private, self.hours)

    def but(self, **others):
        """Return the rule with these arguments in the place of its own."""
        own = {"step": self.step, "gap": self.gap, "least": self.least, "private": self.private, "hours": self.hours}
        told = {**own, **others}
        return Rule(**told)

    def __eq__(self, other):
        return (isinstance(other, Rule) and self.step == other.step and self.gap == other.gap
                and self.least == other.least and self.private == other.private and self.hours == other.hours)

    def __str__(self):
        return f"step {self.step} gap {self.gap} least {self.least} private {self.private}{_hours_text(self.hours)}"


def _normal_parts(rule):
    """Return what tells how a rule shows days, but its hours."""
    normal = rule.normal
    return normal.step, normal.gap, normal.least, normal.private


def alike(p, q):
    """Tell whether two rules, hours left aside, show every day alike."""
    return _normal_parts(p) == _normal_parts(q)
