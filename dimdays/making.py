"""How the blocks of one word of a look are made while a day is read tick by tick.

A tally is a pair (behind, block): how many blocks of the word in the view lie behind, and the pair (begin, end) of the
block that is being made, or None.
"""

from dimdays.blocks import WORDS, is_joined, put_down, put_up, span_shown, word_shown
from dimdays.letters import KINDS

FIRST_TALLY = (0, None)


class Maker:
    """What happens to the tally of one word of a look."""

    def __init__(self, look, word):
        rule, view = look
        self.rule = rule
        self.word = word
        self.spans = tuple([(begin, end) for begin, end, told in view if told == word])
        self.kinds = tuple([kind for kind in KINDS if word_shown(rule, kind == "private") == word])

    def takes(self, kind):
        """Tell whether a meeting of a kind, "busy" or "private", makes blocks of this word."""
        return kind in self.kinds

    def is_idle(self, frame):
        """Tell whether no day of a frame makes blocks of this word, and none is wanted."""
        takes_any = self.takes("busy") or (frame.private and self.takes("private"))
        return not takes_any and len(self.spans) == 0

    def laid(self, tally):
        """Return the tally when its block lies behind, or None if this is not possible."""
        behind, block = tally
        if block is None:
            return tally
        span = span_shown(self.rule, block[0], block[1])
        if span is None:
            return behind, None
        if behind < len(self.spans) and self.spans[behind] == span:
            return behind + 1, None
        return None

    def started(self, tally, tick):
        """Return the tally behind a tick with which a meeting begins, or None if this is not possible."""
        begin, end = put_down(tick, self.rule.step), put_up(tick + 1, self.rule.step)
        behind, block = tally
        if block is not None and is_joined(self.rule, self.word, block[1], begin):
            return behind, (block[0], end)
        laid = self.laid(tally)
        return None if laid is None else (laid[0], (begin, end))

    def gone_on(self, tally, tick):
        """Return the tally behind a tick at which a meeting goes on, or None if none can be going on there."""
        behind, block = tally
        if block is None or block[1] != put_up(tick, self.rule.step):
            return None
        return behind, (block[0], put_up(tick + 1, self.rule.step))

    def is_done(self, tally):
        """Tell whether the view has no further block of this word when the block lies behind."""
        laid = self.laid(tally)
        return laid is not None and laid[0] == len(self.spans)


def make_makers(looks):
    """Return for each look its makers, one for each word."""
    return [tuple([Maker(look, word) for word in WORDS]) for look in looks]
