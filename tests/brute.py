"""The document's words done in the plainest way, by trying all days: what the tests hold the program against."""

import random

from dimdays.days import Day
from dimdays.frames import Frame
from dimdays.rules import Rule
from dimdays.showing import show

WORDS = ("busy", "private")


def rows(length, private=True):
    """Return all rows of letters of so many ticks that tell a day."""
    found = [()]
    for _ in range(length):
        longer = []
        for row in found:
            longer.append(row + ("free",))
            longer.append(row + ("busy",))
            if private:
                longer.append(row + ("private",))
            if row and row[-1] != "free":
                longer.append(row + ("on",))
        found = longer
    return found


def meetings_of(row):
    """Return the meetings that a row of letters tells."""
    found = []
    for tick, letter in enumerate(row):
        if letter == "on":
            found[-1] = (found[-1][0], tick + 1, found[-1][2])
        elif letter != "free":
            found.append((tick, tick + 1, letter == "private"))
    return found


def all_days(length, private=True):
    return [Day(length, meetings_of(row)) for row in rows(length, private)]


def widened(rule, meetings, word):
    """Return the blocks of a word before any is left out: joined two by two, as long as there are two to join."""
    blocks = []
    for begin, end, is_private in meetings:
        told = "busy" if not is_private else {"busy": "busy", "none": None}.get(rule.private, "private")
        if told == word:
            while begin % rule.step:
                begin -= 1
            while end % rule.step:
                end += 1
            blocks.append((begin, end))
    changed = True
    while changed:
        changed = False
        for one in range(len(blocks)):
            for other in range(one + 1, len(blocks)):
                (b, e), (c, f) = blocks[one], blocks[other]
                between = max(b, c) - min(e, f)
                if between <= rule.gap or (word == "private" and rule.private == "one"):
                    rest = [block for k, block in enumerate(blocks) if k not in (one, other)]
                    blocks = rest + [(min(b, c), max(e, f))]
                    changed = True
                    break
            if changed:
                break
    return sorted(blocks)


def cut(rule, begin, end):
    """Return what is left of a block, or None."""
    if end - begin < rule.least:
        return None
    ticks = [tick for tick in range(begin, end) if rule.hours is None or rule.hours[0] <= tick < rule.hours[1]]
    return (ticks[0], ticks[-1] + 1) if ticks else None


def plain_show(rule, day):
    """Return the view of a day."""
    found = []
    for word in WORDS:
        for begin, end in widened(rule, day.meetings, word):
            left = cut(rule, begin, end)
            if left is not None:
                found.append((*left, word))
    return tuple(sorted(found))


def plain_lets(frame, day):
    """Tell whether a frame lets a day."""
    if day.length != frame.length:
        return False
    ticks = [any(begin <= tick < end for begin, end, _ in day.meetings) for tick in range(day.length)]
    return (all(end - begin >= frame.shortest for begin, end, _ in day.meetings)
            and (frame.most is None or len(day.meetings) <= frame.most)
            and (frame.private or not any(is_private for _, _, is_private in day.meetings))
            and all(ticks[tick] == is_taken for tick, is_taken in frame.known))


def plain_fits(frame, looks, days):
    """Return those of the days that fit."""
    return [day for day in days if plain_lets(frame, day) and all(plain_show(rule, day) == v for rule, v in looks)]


def plain_pair(rule, view, meetings, word):
    """Return the pair (behind, making) of a word for the meetings read so far, or None if this cannot be."""
    wanted = [block[:2] for block in view if block[2] == word]
    blocks = widened(rule, meetings, word)
    shown = [cut(rule, begin, end) for begin, end in blocks[:-1]]
    shown = [block for block in shown if block is not None]
    if shown != wanted[:len(shown)]:
        return None
    return len(shown), (blocks[-1] if blocks else None)


def plain_standing(frame, looks, row):
    """Return the standing behind a row of letters, or None if one of them is not possible."""
    meetings = meetings_of(row)
    for k, (begin, end, is_private) in enumerate(meetings):
        if end - begin < frame.shortest and (k + 1 < len(meetings) or end < len(row)):
            return None
        if is_private and not frame.private:
            return None
    if frame.most is not None and len(meetings) > frame.most:
        return None
    for tick, is_taken in frame.known:
        if tick < len(row) and (row[tick] != "free") != is_taken:
            return None
    is_going = bool(row) and row[-1] != "free"
    going = ("private" if meetings[-1][2] else "busy") if is_going else ""
    run = min(meetings[-1][1] - meetings[-1][0], frame.shortest) if is_going else 0
    making = []
    for rule, view in looks:
        pairs = tuple(plain_pair(rule, view, meetings, word) for word in WORDS)
        if None in pairs:
            return None
        making.append(pairs)
    return going, run, 0 if frame.most is None else len(meetings), tuple(making)


def row_of(day):
    """Return the row of letters of a day."""
    row = ["free"] * day.length
    for begin, end, is_private in day.meetings:
        row[begin] = "private" if is_private else "busy"
        row[begin + 1:end] = ["on"] * (end - begin - 1)
    return tuple(row)


def plain_layers(frame, looks, days):
    """Return the standings ahead of each tick, and behind the last one, on the ways of all days that fit."""
    found = [{} for _ in range(frame.length + 1)]
    for day in plain_fits(frame, looks, days):
        row = row_of(day)
        for tick in range(frame.length + 1):
            found[tick][plain_standing(frame, looks, row[:tick])] = True
    return tuple(tuple(sorted(lot, key=repr)) for lot in found)


def some_day(rng, length, shortest, private):
    """Return a day such as a frame can let."""
    found, tick = [], 0
    while tick + shortest <= length:
        if rng.random() < 0.4:
            end = min(length, tick + shortest + rng.randint(0, 3))
            found.append((tick, end, private and rng.random() < 0.5))
            tick = end
        else:
            tick += 1
    return Day(length, found)


def some_rule(rng, greatest=5, till=10):
    """Return a rule."""
    hours = None
    if rng.random() < 0.4:
        start = rng.randint(0, till - 2)
        hours = (start, rng.randint(start + 1, till))
    return Rule(rng.randint(1, min(8, greatest)), rng.choice([0, 0, 1, 2, rng.randint(0, greatest)]),
                rng.choice([0, 0, 1, 2, 3, rng.randint(0, greatest)]),
                rng.choice(["busy", "none", "apart", "one"]), hours)


def some_known(rng, day, many):
    """Return known ticks that are mostly right for a day."""
    taken = day.taken
    told = []
    for _ in range(many):
        tick = rng.randrange(day.length)
        told.append((tick, (tick in taken) if rng.random() < 0.9 else rng.random() < 0.5))
    return told


def some_question(seed, length, private, looks=2, greatest=5, till=10):
    """Return a frame and looks, mostly such as a day fits."""
    rng = random.Random(seed)
    shortest = rng.randint(1, 3)
    day = some_day(rng, length, shortest, private)
    other = some_day(rng, length, 1, private)
    most = rng.choice([None, None, len(day), len(day) + 1, 0, 2])
    frame = Frame(length, rng.randint(1, shortest), most, private, some_known(rng, day, rng.choice([0, 0, 1, 2])))
    told = []
    for _ in range(rng.randint(0, looks)):
        rule = some_rule(rng, greatest, till)
        told.append((rule, show(rule, day if rng.random() < 0.9 else other)))
    return frame, told
