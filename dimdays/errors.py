"""The errors of the package, one class for each kind of failure."""


class DimError(ValueError):
    """The base class of the errors about wrong arguments."""


class InvalidDay(DimError):
    """An argument makes no day; `word` names it."""

    def __init__(self, word):
        self.word = word


class InvalidRule(DimError):
    """An argument makes no rule; `word` names it."""

    def __init__(self, word):
        self.word = word


class InvalidFrame(DimError):
    """An argument makes no frame; `word` names it."""

    def __init__(self, word):
        self.word = word


class InvalidText(DimError):
    """Something is no text of the form that is read."""

    def __init__(self, at):
        self.at = at


class InvalidLooks(DimError):
    """Something makes no looks; `at` is the index of the first wrong one."""

    def __init__(self, at):
        self.at = at


class InvalidSlot(DimError):
    """Two values tell no slot."""


class InvalidCommand(DimError):
    """Something is no command, or none that can be done now."""


class Refused(DimError):
    """Several looks were not added; `at` is the index of the first wrong one."""

    def __init__(self, at):
        self.at = at


class NoMeeting(IndexError):
    """A day has no meeting at the index `at`."""

    def __init__(self, at):
        self.at = at
