"""Live things: what is seen of a day, one deed after another, each of which can be taken back."""

from dimdays.errors import InvalidLooks, Refused
from dimdays.knowing import many_days
from dimdays.looks import check_looks, is_look


class Live:
    """What is known of a day so far: a frame, and looks."""

    def __init__(self, frame):
        self.frame = frame
        self.looks = ()
        # The frame and the looks ahead of each deed.
        self._past = ()

    def _do(self, frame, looks):
        """Put a frame and looks in the place of what was known, as one deed, and return how many days fit."""
        many = many_days(frame, looks)
        self._past = self._past + ((self.frame, self.looks),)
        self.frame = frame
        self.looks = looks
        return many

    def look(self, rule, view):
        """Add a look, and return how many days fit then."""
        if not is_look((rule, view)):
            raise InvalidLooks(len(self.looks))
        return self._do(self.frame, self.looks + ((rule, view),))

    def know(self, tick, is_taken):
        """Add a known tick, and return how many days fit then."""
        return self._do(self.frame.knowing(tick, is_taken), self.looks)

    def several(self, looks):
        """Add all of several looks, or none if one of them is wrong, and return how many days fit then."""
        try:
            check_looks(looks)
        except InvalidLooks as error:
            raise Refused(error.at) from error
        return self._do(self.frame, self.looks + tuple(looks))

    def undo(self):
        """Take back the last deed, and return whether there was one."""
        if len(self._past) == 0:
            return False
        self.frame, self.looks = self._past[-1]
        self._past = self._past[:-1]
        return True

    def within(self, work):
        """Return what some work with the live thing returns; behind it, all is as it was ahead."""
        frame, looks, past = self.frame, self.looks, self._past
        try:
            return work(self)
        finally:
            self.frame, self.looks, self._past = frame, looks, past

    def __len__(self):
        return len(self._past)
