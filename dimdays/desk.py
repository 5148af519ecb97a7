"""Desks: commands in texts, and what they tell in texts."""

from dimdays.errors import InvalidCommand
from dimdays.frames import Frame
from dimdays.knowing import many_days
from dimdays.live import Live
from dimdays.meetings import fewest, greatest
from dimdays.plain import is_numeral
from dimdays.rules import Rule
from dimdays.showing import read_view
from dimdays.sure import slot, sure

PARTING = ":"


def _words_of(command):
    """Return the words of a command."""
    if not isinstance(command, str) or "\n" in command:
        raise InvalidCommand()
    words = command.split(" ")
    if "" in words:
        raise InvalidCommand()
    return words


def _read_frame(words):
    """Return what tells of a command to begin with a frame: its text."""
    if len(words) == 0:
        raise InvalidCommand()
    return (" ".join(words),)


def _read_look(words):
    """Return what tells of a look: the texts of its rule and of its view."""
    if PARTING not in words:
        raise InvalidCommand()
    at = words.index(PARTING)
    if at == 0 or at == len(words) - 1:
        raise InvalidCommand()
    return " ".join(words[:at]), " ".join(words[at + 1:])


def _read_known(words):
    """Return the tick that two words tell, and whether it is taken."""
    if len(words) != 2 or not is_numeral(words[0]) or words[1] not in ("taken", "free"):
        raise InvalidCommand()
    return int(words[0]), words[1] == "taken"


def _read_slot(words):
    """Return the two numbers that tell a slot."""
    if len(words) != 2 or not is_numeral(words[0]) or not is_numeral(words[1]):
        raise InvalidCommand()
    return int(words[0]), int(words[1])


def _read_nothing(words):
    """Return what tells of a command of one word."""
    if len(words) > 0:
        raise InvalidCommand()
    return ()


def _add_look(live, rule_text, view_text):
    rule = Rule.read(rule_text)
    return str(live.look(rule, read_view(view_text)))


def _add_known(live, tick, is_taken):
    return str(live.know(tick, is_taken))


def _ticks_text(ticks):
    return "-" if len(ticks) == 0 else " ".join([str(tick) for tick in ticks])


def _tell_free(live):
    told = sure(live.frame, live.looks)
    return "none" if told is None else _ticks_text(told[0])


def _tell_taken(live):
    told = sure(live.frame, live.looks)
    return "none" if told is None else _ticks_text(told[1])


def _tell_slot(live, begin, end):
    told = slot(live.frame, live.looks, begin, end)
    return "none" if told is None else told


def _tell_meetings(live):
    few = fewest(live.frame, live.looks)
    return "none" if few is None else f"{few} {greatest(live.frame, live.looks)}"


def _take_back(live):
    return "undone" if live.undo() else "nothing"


# How the words behind the first one of a command are read, and what is done with a live thing then.
READERS = {
    "frame": _read_frame, "look": _read_look, "know": _read_known, "free": _read_nothing, "taken": _read_nothing,
    "slot": _read_slot, "meetings": _read_nothing, "undo": _read_nothing,
}
WORKERS = {
    "look": _add_look, "know": _add_known, "free": _tell_free, "taken": _tell_taken, "slot": _tell_slot,
    "meetings": _tell_meetings, "undo": _take_back,
}


class Desk:
    """Does commands, with a live thing that the first one begins."""

    def __init__(self):
        self.live = None

    def _begin(self, text):
        """Put a new live thing in the place of the one that is there, and return how many days there are."""
        frame = Frame.read(text)
        many = many_days(frame, ())
        self.live = Live(frame)
        return str(many)

    def say(self, command):
        """Do a command, and return what it tells."""
        words = _words_of(command)
        if words[0] not in READERS:
            raise InvalidCommand()
        reader = READERS[words[0]]
        told = reader(words[1:])
        if words[0] == "frame":
            return self._begin(told[0])
        if self.live is None:
            raise InvalidCommand()
        worker = WORKERS[words[0]]
        return worker(self.live, *told)
