"""Looks: pairs of a rule and the view by which it showed a day."""

from dimdays.errors import InvalidLooks
from dimdays.plain import is_sequence
from dimdays.rules import Rule
from dimdays.showing import is_view


def is_look(value):
    """Tell whether any value is a look."""
    if not isinstance(value, tuple) or len(value) != 2:
        return False
    rule, view = value
    return isinstance(rule, Rule) and is_view(view)


def check_looks(looks):
    """Raise the error about the first wrong look if any value is no sequence of looks."""
    if not is_sequence(looks):
        raise InvalidLooks(0)
    for at, look in enumerate(looks):
        if not is_look(look):
            raise InvalidLooks(at)
