"""How the blocks of a view come about: what showing a day at once and reading it tick by tick share."""

WORDS = ("busy", "private")


def put_down(tick, step):
    """Return the last multiple of a step that is not behind a tick."""
    return tick // step * step


def put_up(tick, step):
    """Return the first multiple of a step that is not ahead of a tick."""
    return (tick + step - 1) // step * step


def word_shown(rule, is_private):
    """Return the word that a meeting has by a rule, or None if it is left out."""
    if not is_private or rule.private == "busy":
        return "busy"
    if rule.private == "none":
        return None
    return "private"


def is_joined(rule, word, end, begin):
    """Tell whether a block with this end becomes one with the next one of its word, which has this begin."""
    if word == "private" and rule.private == "one":
        return True
    return begin - end <= rule.gap


def span_shown(rule, begin, end):
    """Return what a whole block is cut to, as (begin, end), or None if it is left out."""
    if end - begin < rule.least:
        return None
    if rule.hours is None:
        return begin, end
    start, till = rule.hours
    begin, end = max(begin, start), min(end, till)
    return (begin, end) if begin < end else None
