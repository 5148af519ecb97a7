"""Rules chosen by what a look by them would tell, or would not give away."""

from dimdays.looks import check_looks
from dimdays.rules import PRIVATE_WORDS
from dimdays.sure import check_slot, slot_word
from dimdays.viewing import views_told
from dimdays.ways import closing_ways


def _counts(ways, rule):
    """Return how many of the days of ways have each view by a rule, as a dict."""
    return {row[0]: many for row, (many, _) in views_told(ways, [rule]).items()}


def _most_left(ways, rule):
    """Return how many of the days of ways have the view by a rule that most of them have."""
    return max(list(_counts(ways, rule).values()), default=0)


def left(frame, looks, rule):
    """Return the greatest number of days that can still fit behind one more look by a rule."""
    check_looks(looks)
    return _most_left(closing_ways(frame, looks), rule)


def best_looks(frame, looks, rules):
    """Return the indexes of those of the rules by which one more look leaves the fewest days, whatever it shows."""
    check_looks(looks)
    ways = closing_ways(frame, looks)
    counts = [_most_left(ways, rule) for rule in rules]
    least = min(counts, default=0)
    return tuple([at for at, many in enumerate(counts) if many == least])


def _free_ways(frame, begin, end):
    """Return the ways of all days of a frame in which a slot is free."""
    known = frame
    for tick in range(begin, end):
        known = known.knowing(tick, False)
    return closing_ways(known, ())


def _words(ways, free, rule):
    """Return what `slot` tells behind looks by a rule, from the ways of all days and of those with the slot free."""
    counts = _counts(free, rule)
    words = {slot_word(many, counts.get(view, 0)): True for view, many in _counts(ways, rule).items()}
    return tuple(sorted(list(words)))


def answers(frame, rule, begin, end):
    """Return the words that `slot` can tell of a slot behind a look by a rule."""
    check_slot(frame, begin, end)
    return _words(closing_ways(frame, ()), _free_ways(frame, begin, end), rule)


def _others(rule):
    """Return the rules that differ from a rule in one argument, among the values that are tried for each."""
    steps = [rule.but(step=step) for step in range(1, 5)]
    gaps = [rule.but(gap=gap) for gap in range(5)]
    leasts = [rule.but(least=least) for least in range(5)]
    tried = steps + gaps + leasts + [rule.but(private=word) for word in PRIVATE_WORDS]
    return [other for other in tried if other != rule]


def veils(frame, rule, begin, end, word):
    """Return the texts of the rules, unlike a rule in one argument, by which `slot` never tells a word of a slot."""
    check_slot(frame, begin, end)
    ways, free = closing_ways(frame, ()), _free_ways(frame, begin, end)
    return tuple(sorted([str(other) for other in _others(rule) if word not in _words(ways, free, other)]))
