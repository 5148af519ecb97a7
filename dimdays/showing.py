"""Views: how a day is shown by a rule, and the texts of views."""

from dimdays.blocks import WORDS, is_joined, put_down, put_up, span_shown, word_shown
from dimdays.errors import InvalidText
from dimdays.plain import is_number, read_span


def _meeting_spans(rule, day, word):
    """Return what each meeting that is shown with a word is widened to."""
    step = rule.step
    return [(put_down(begin, step), put_up(end, step)) for begin, end, is_private in day.meetings
            if word_shown(rule, is_private) == word]


def _joined_spans(rule, word, spans):
    """Return the blocks that spans of one word, in the order of their meetings, are joined to."""
    joined = []
    for begin, end in spans:
        # The meetings of a day do not overlap, so no span ends ahead of an earlier one.
        if len(joined) > 0 and is_joined(rule, word, joined[-1][1], begin):
            joined[-1] = (joined[-1][0], end)
        else:
            joined.append((begin, end))
    return joined


def _blocks(rule, day, word):
    """Return the blocks of one word that a rule shows of a day."""
    joined = _joined_spans(rule, word, _meeting_spans(rule, day, word))
    cut = [span_shown(rule, begin, end) for begin, end in joined]
    return [(span[0], span[1], word) for span in cut if span is not None]


def show(rule, day):
    """Return the view of a day by a rule."""
    return tuple(sorted([block for word in WORDS for block in _blocks(rule, day, word)]))


def _is_block(value):
    """Tell whether any value can be a block of a view."""
    if not isinstance(value, tuple) or len(value) != 3:
        return False
    begin, end, word = value
    return is_number(begin) and is_number(end) and begin < end and word in WORDS


def is_view(value):
    """Tell whether any value is a view: blocks in ascending order, none twice."""
    if not isinstance(value, tuple):
        return False
    if not all([_is_block(block) for block in value]):
        return False
    return all([value[at] < value[at + 1] for at in range(len(value) - 1)])


def view_text(view):
    """Return the text of a view."""
    if len(view) == 0:
        return "-"
    return ", ".join([f"{begin}-{end} {word}" for begin, end, word in view])


def _read_block(text):
    words = text.split(" ")
    if len(words) != 2:
        raise InvalidText(0)
    begin, end = read_span(words[0])
    return begin, end, words[1]


def read_view(text):
    """Return the view that a text tells."""
    if not isinstance(text, str):
        raise InvalidText(0)
    parts = [] if text == "-" else text.split(", ")
    view = tuple([_read_block(part) for part in parts])
    if not is_view(view):
        raise InvalidText(0)
    return view
