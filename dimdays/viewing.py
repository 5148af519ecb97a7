"""What rules show of the days that ways tell: all rows of views that come, with how many days have each."""

from dimdays.blocks import WORDS, span_shown
from dimdays.letters import going_behind
from dimdays.making import Maker
from dimdays.standings import next_making

FIRST_VIEWED = ((), None)


class Viewer(Maker):
    """A maker that collects the blocks of a word that lie behind, whatever they are, in the place of their number."""

    def __init__(self, rule, word):
        Maker.__init__(self, (rule, ()), word)

    def laid(self, tally):
        """Return the tally when its block lies behind."""
        behind, block = tally
        span = None if block is None else span_shown(self.rule, block[0], block[1])
        return (behind if span is None else (*behind, span)), None

    def blocks(self, tally):
        """Return all blocks of the word, with those that are being made."""
        behind, _ = self.laid(tally)
        return [(begin, end, self.word) for begin, end in behind]


def _step(rows, viewers, tick, here):
    """Return the keys behind a tick, as those ahead of it are told: how many rows of letters lead there, and one."""
    told = {}
    for key, (many, row) in here.items():
        node, going, making = key
        for letter, reached in rows[node]:
            made = next_making(viewers, making, tick, letter, going if letter == "on" else letter)
            behind = (reached, going_behind(going, letter), made)
            if behind in told:
                told[behind] = (told[behind][0] + many, told[behind][1])
            else:
                told[behind] = (many, (*row, letter))
    return told


def _views(viewers, making):
    """Return what each rule has shown behind the last tick."""
    return tuple([tuple(sorted([block for viewer, tally in zip(pair, tallies) for block in viewer.blocks(tally)]))
                  for pair, tallies in zip(viewers, making)])


def views_told(ways, rules):
    """Return, for all rows of views that the days of ways have by some rules, how many have it, and one's letters."""
    viewers = [tuple([Viewer(rule, word) for word in WORDS]) for rule in rules]
    first = tuple([(FIRST_VIEWED, FIRST_VIEWED) for _ in rules])
    here = {(node, "", first): (1, ()) for node in range(len(ways[0]))}
    for tick, rows in enumerate(ways[:-1]):
        here = _step(rows, viewers, tick, here)
    told = {}
    for key, (many, row) in here.items():
        found = _views(viewers, key[2])
        told[found] = (told[found][0] + many if found in told else many, row)
    return told
