"""Values for the tests: such as may be passed where any value may be."""

from dimdays.days import Day
from dimdays.desk import Desk
from dimdays.errors import InvalidDay, NoMeeting
from dimdays.frames import Frame
from dimdays.live import Live
from dimdays.rules import Rule


def nested(depth, inner):
    """Return a list in a tuple in a list .., so many deep, around a value."""
    for level in range(depth):
        inner = [inner] if level % 2 else (inner,)
    return inner


def things():
    """Return one value of each kind, and odd ones of some kinds."""
    return [
        0, 1, 2, -1, -2, 10 ** 30, -(10 ** 30), True, False, None,
        "", " ", "-", "1", "busy", "private", "length", "2-5", "step", "\n",
        [], (), [1], (1,), [1, 2], (2, 1), (True, False), (1, 2, 3), [1, 2, False], (None, None, None),
        ((),), [[]], ([], [], []), nested(8, 3), nested(8, "busy"),
        Day(1), Day(9, [(1, 3, False), (3, 5, True)]), Rule(), Rule(2, 1, 3, "one", (1, 2)),
        InvalidDay("length"), NoMeeting(3), [Day(2)], (Rule(), Day(2)), Frame(3), Frame(9, 2, 3, True, [(0, True)]),
        (Frame(3), Rule()), ((0, True),), ((1, 3, "busy"),), [(1, 3, "busy")],
        Live(Frame(3)), Desk(), [Desk(), Live(Frame(2))],
    ]


def without_kinds(*kinds):
    """Return the things that are of none of these kinds; `bool` stands apart from `int`."""
    kept = []
    for thing in things():
        kind = thing.__class__
        if kind not in kinds:
            kept.append(thing)
    return kept
