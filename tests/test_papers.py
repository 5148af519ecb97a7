"""Point 19: papers, right ones and wrong ones; and the limits of point 3."""

import itertools
import random
import unittest

from brute import all_days, plain_fits, plain_standing, row_of, rows, some_question
from dimdays.errors import InvalidLooks
from dimdays.frames import Frame
from dimdays.net import after, begun, closes, layers
from dimdays.papers import paper, paper_holds
from dimdays.rules import Rule
from dimdays.sure import sure
from samples import things

RULE, FRAME = Rule(step=2), Frame(8, shortest=2)
LOOKS = [(RULE, ((2, 6, "busy"),))]
LETTERS = ("free", "busy", "private", "on")


def same(one, other):
    """Tell whether two things are equal and of the same kinds throughout."""
    if type(one) is not type(other):
        return False
    if isinstance(one, tuple):
        return len(one) == len(other) and all(same(a, b) for a, b in zip(one, other))
    return one == other


class Plain:
    """All standings that come about, where they lead, and which close, by trying all rows of letters."""

    def __init__(self, frame, looks, days):
        self.frame = frame
        self.lots = [{} for _ in range(frame.length + 1)]
        for tick in range(frame.length + 1):
            for row in rows(tick, frame.private):
                standing = plain_standing(frame, looks, row)
                if standing is not None:
                    self.lots[tick].setdefault(standing, row)
        self.moves = {}
        for tick in range(frame.length):
            for standing, row in self.lots[tick].items():
                for letter in LETTERS:
                    if letter == "on" and standing[0] == "" or letter == "private" and not frame.private:
                        continue
                    behind = plain_standing(frame, looks, row + (letter,))
                    if behind is not None:
                        self.moves.setdefault((tick, standing), []).append((letter, behind))
        closing = [row_of(day) for day in plain_fits(frame, looks, days)]
        self.closing = {plain_standing(frame, looks, row) for row in closing}

    def holds(self, tick, is_taken, value):
        """Tell whether lots of hashable standings are right by the four conditions."""
        if len(value) != self.frame.length + 1 or plain_standing_first(self) not in value[0]:
            return False
        for at, lot in enumerate(value):
            for standing in lot:
                if not any(same(standing, one) for one in self.lots[at]):
                    return False
                for letter, behind in self.moves.get((at, standing), []):
                    if (at != tick or (letter == "free") == is_taken) and behind not in value[at + 1]:
                        return False
        return not any(standing in self.closing for standing in value[-1])


def plain_standing_first(plain):
    return next(iter(plain.lots[0]))


def changed(rng, told, plain):
    """Return lots with something about them changed, and whether that can make no difference."""
    lots = [list(lot) for lot in told]
    way = rng.randrange(8)
    at = rng.randrange(len(lots))
    if way == 0:
        for lot in lots:
            rng.shuffle(lot)
        return lots, True
    if way == 1:
        lots[at] += lots[at]
        return lots, True
    if way == 2 and lots[at]:
        lots[at].pop(rng.randrange(len(lots[at])))
    elif way == 3:
        lots[at] += rng.sample(list(plain.lots[at]), min(len(plain.lots[at]), rng.randint(1, 3)))
    elif way == 4:
        other = rng.randrange(len(lots))
        lots[at] += lots[other][:1]
    elif way == 5:
        other = rng.randrange(len(lots))
        lots[at], lots[other] = lots[other], lots[at]
    elif way == 6:
        lots[at] = list(plain.lots[at])
    else:
        lots[at] = lots[at][:1]
    return lots, False


def put_otherwise(thing):
    """Return things that are equal to a tuple, or nearly so, but in which one thing is of another kind."""
    found = [list(thing)]
    for at, part in enumerate(thing):
        if isinstance(part, tuple):
            others = put_otherwise(part)
        elif isinstance(part, int) and part in (0, 1):
            others = [bool(part)]
        elif part is None:
            others = [False, (), (None, None), 0]
        elif isinstance(part, int):
            others = [str(part), (part,), -part]
        else:
            others = [None, (part,), part + " "]
        found += [thing[:at] + (other,) + thing[at + 1:] for other in others]
    return found


class Ordinary(unittest.TestCase):
    def test_example(self):
        told = paper(FRAME, LOOKS, 3, True)
        self.assertIs(paper_holds(FRAME, LOOKS, 3, True, told), True)
        self.assertIsNone(paper(FRAME, LOOKS, 2, True))
        self.assertIs(paper_holds(FRAME, LOOKS, 2, True, told), False)

    def test_for_another_tick_or_the_other_way_round(self):
        told = {(tick, is_taken): paper(FRAME, LOOKS, tick, is_taken)
                for tick in range(8) for is_taken in (True, False)}
        free, taken = sure(FRAME, LOOKS)
        for (tick, is_taken), value in told.items():
            self.assertEqual(value is not None, tick in (taken if is_taken else free))
            if value is not None:
                for asked in told:
                    self.assertIs(paper_holds(FRAME, LOOKS, *asked, value), asked == (tick, is_taken))

    def test_for_other_looks_or_frames(self):
        told = paper(FRAME, LOOKS, 3, True)
        # Whatever the block ends with: if it begins with 2, tick 3 is in it.
        self.assertIs(paper_holds(FRAME, [(RULE, ((2, 8, "busy"),))], 3, True, told), True)
        for frame, looks in ((FRAME, []), (FRAME, [(RULE, ((0, 6, "busy"),))]), (FRAME, LOOKS * 2),
                             (Frame(9, 2), LOOKS), (Frame(7, 2), LOOKS), (Frame(8), LOOKS), (Frame(8, 2, 9), LOOKS)):
            self.assertIs(paper_holds(frame, looks, 3, True, told), False)

    def test_the_form(self):
        told = paper(FRAME, LOOKS, 3, True)
        self.assertIs(type(told), tuple)
        self.assertEqual(len(told), 9)
        self.assertEqual(set(told[0]), {begun(FRAME, LOOKS)})
        for lot in told:
            self.assertIs(type(lot), tuple)
        for standing in told[-1]:
            self.assertIs(closes(FRAME, LOOKS, standing), False)

    def test_lots_of_their_own(self):
        frame, first = Frame(2), ("", 0, 0, ())
        busy = ("busy", 1, 0, ())
        # Nothing is sure of these, so no paper can be right.
        for value in (((first,), (first,), ()), ((first,), (first, busy), (first, busy)), ((first,), (busy,), ())):
            for tick, is_taken in itertools.product((0, 1), (True, False)):
                self.assertIs(paper_holds(frame, (), tick, is_taken, value), False)
        frame = Frame(2, known=[(0, True)])
        self.assertIs(paper_holds(frame, (), 0, True, ((first,), (), ())), True)
        self.assertEqual([set(lot) for lot in paper(frame, (), 0, True)], [{first}, set(), set()])
        self.assertIs(paper_holds(frame, (), 0, True, ((first,), (busy,), ())), False)
        self.assertIs(paper_holds(frame, (), 0, True, ((), (), ())), False)
        self.assertIs(paper_holds(frame, (), 0, True, ((first,), (first,), ())), False)
        self.assertIs(paper_holds(frame, (), 0, True, ((first, busy), (), ())), False)
        frame, two = Frame(3, 3, known=[(1, True)]), ("busy", 2, 0, ())
        self.assertIs(paper_holds(frame, (), 0, True, ((first,), (first,), (busy,), (two,))), True)
        self.assertIs(paper_holds(frame, (), 0, True, ((first,), (first,), (busy,), (busy, two))), False)

    def test_more_than_what_is_led_to(self):
        frame, first = Frame(3, 3), ("", 0, 0, ())
        one, two, three = ("busy", 1, 0, ()), ("busy", 2, 0, ()), ("busy", 3, 0, ())
        frame = Frame(3, 3, known=[(1, True)])
        self.assertIs(paper_holds(frame, (), 0, True, ((first,), (first, one), (one, two), (two, three))), False)
        frame = Frame(3, 3, known=[(2, True)])
        # What is not led to may be there if it comes about, leads on in the lots, and does not close.
        self.assertIs(paper_holds(frame, (), 0, True, ((first,), (first,), (first, one), (one, two))), True)
        self.assertIs(paper_holds(frame, (), 0, True, ((first,), (first, one), (first, one, two), (one, two))), False)
        self.assertIs(paper_holds(frame, (), 0, True, ((first,), (first,), (first, one, two), (one, two))), False)
        frame = Frame(4, 3, known=[(3, True)])
        value = ((first,), (first,), (first,), (first, one), (one, two))
        self.assertIs(paper_holds(frame, (), 1, True, value), False)

    def test_what_comes_about_only_the_other_way(self):
        frame, first = Frame(2, 2, known=[(0, True)]), ("", 0, 0, ())
        one, two = ("busy", 1, 0, ()), ("busy", 2, 0, ())
        self.assertIs(paper_holds(frame, (), 1, True, ((first,), (one,), ())), True)
        self.assertIs(paper_holds(frame, (), 1, True, ((first,), (one,), (two,))), False)
        self.assertIs(paper_holds(frame, (), 0, True, ((first,), (), ())), True)
        self.assertIs(paper_holds(frame, (), 0, True, ((first,), (one,), (two,))), False)
        self.assertIs(paper_holds(frame, (), 0, True, ((first,), (one,), ())), False)
        frame = Frame(3, 2, known=[(0, True), (1, True)])
        self.assertIs(paper_holds(frame, (), 0, True, ((first,), (), (), (("busy", 1, 0, ()),))), True)
        self.assertIs(paper_holds(frame, (), 0, True, ((first,), (), (one,), ())), False)
        self.assertIs(paper_holds(frame, (), 0, True, ((first,), (), (), (two,))), False)


class NoDayFits(unittest.TestCase):
    def test_all_is_shown(self):
        for frame, looks in ((FRAME, [(RULE, ((1, 6, "busy"),))]), (Frame(8, most=0), LOOKS),
                             (Frame(5, known=[(2, True), (2, False)]), ())):
            for tick, is_taken in itertools.product(range(frame.length), (True, False)):
                told = paper(frame, looks, tick, is_taken)
                self.assertIs(paper_holds(frame, looks, tick, is_taken, told), True)

    def test_known_ticks(self):
        frame = Frame(4, known=[(1, True), (2, False)])
        self.assertIs(paper_holds(frame, (), 1, True, paper(frame, (), 1, True)), True)
        self.assertIs(paper_holds(frame, (), 2, False, paper(frame, (), 2, False)), True)
        self.assertIsNone(paper(frame, (), 1, False))
        self.assertIsNone(paper(frame, (), 0, True))

    def test_no_meetings(self):
        frame = Frame(3, most=0)
        self.assertIs(paper_holds(frame, (), 1, False, paper(frame, (), 1, False)), True)
        self.assertIsNone(paper(frame, (), 1, True))


class AnyValues(unittest.TestCase):
    def test_things(self):
        first = begun(FRAME, LOOKS)
        for thing in things():
            for value in (thing, (thing,), ((thing,),) * 9, (thing,) * 9, ((first,),) + (thing,) * 8,
                          ((first, thing),) + ((),) * 8, ((first,),) + ((thing,),) * 8):
                self.assertIs(paper_holds(FRAME, LOOKS, 3, True, value), False)
        told = paper(FRAME, LOOKS, 3, True)
        for thing in things():
            for at in range(9):
                self.assertIs(paper_holds(FRAME, LOOKS, 3, True, told[:at] + (told[at] + (thing,),) + told[at + 1:]),
                              False)
                going, run, many, making = told[at][0] if told[at] else first
                for wrong in ((thing, run, many, making), (going, run, many, (thing,)),
                              (going, run, many, ((thing, making[0][1]),)),
                              (going, run, many, ((making[0][0], (0, thing)),)) if thing is not None else thing):
                    self.assertIs(paper_holds(
                        FRAME, LOOKS, 3, True, told[:at] + (told[at] + (wrong,),) + told[at + 1:]),
                        at < 9 and told[at] != () and same(wrong, told[at][0]))

    def test_lists_are_none(self):
        told = paper(FRAME, LOOKS, 3, True)
        self.assertIs(paper_holds(FRAME, LOOKS, 3, True, list(told)), False)
        for at in range(9):
            self.assertIs(paper_holds(FRAME, LOOKS, 3, True, told[:at] + (list(told[at]),) + told[at + 1:]), False)

    def test_standings_put_otherwise(self):
        frame = Frame(4, 2, 3, True)
        looks = [(Rule(private="apart"), ((0, 2, "busy"), (2, 4, "private"))), (Rule(), ((0, 4, "busy"),))]
        told = paper(frame, looks, 1, True)
        self.assertIs(paper_holds(frame, looks, 1, True, told), True)
        tried = 0
        for at, lot in enumerate(told):
            for k, standing in enumerate(lot):
                for other in put_otherwise(standing):
                    tried += 1
                    for new in (lot[:k] + (other,) + lot[k + 1:], lot + (other,), (other,) + lot):
                        value = told[:at] + (new,) + told[at + 1:]
                        self.assertIs(paper_holds(frame, looks, 1, True, value), False, (at, other))
        self.assertGreater(tried, 30)

    def test_wrong_looks_come_first(self):
        for call in (lambda looks: paper(FRAME, looks, 3, True),
                     lambda looks: paper_holds(FRAME, looks, 3, True, None)):
            for looks, at in ((None, 0), ([LOOKS[0], 3], 1), (LOOKS[0], 0)):
                with self.assertRaises(InvalidLooks) as caught:
                    call(looks)
                self.assertEqual(caught.exception.at, at)


class Against(unittest.TestCase):
    def test_the_conditions(self):
        rng = random.Random(19)
        days = {(length, private): all_days(length, private) for length in range(1, 6) for private in (True, False)}
        right, wrong = 0, 0
        for seed in range(110):
            length, private = 1 + seed % 5, seed // 5 % 2 == 0
            frame, looks = some_question(3000 + seed, length, private, 2)
            plain = Plain(frame, looks, days[length, private])
            known = sure(frame, looks)
            for tick, is_taken in itertools.product(range(length), (True, False)):
                told = paper(frame, looks, tick, is_taken)
                asked = (str(frame), looks, tick, is_taken)
                self.assertEqual(told is not None, known is None or tick in known[is_taken], asked)
                if told is None:
                    value = tuple(tuple(lot) for lot in plain.lots)
                    self.assertIs(paper_holds(frame, looks, tick, is_taken, value), False, asked)
                    continue
                self.assertIs(plain.holds(tick, is_taken, told), True, asked)
                self.assertIs(paper_holds(frame, looks, tick, is_taken, told), True, asked)
                for _ in range(6):
                    lots, is_right = changed(rng, told, plain)
                    value = tuple(tuple(lot) for lot in lots)
                    wanted = plain.holds(tick, is_taken, value)
                    self.assertTrue(wanted or not is_right)
                    self.assertIs(paper_holds(frame, looks, tick, is_taken, value), wanted, (asked, value))
                    right, wrong = right + wanted, wrong + (not wanted)
        self.assertGreater(min(right, wrong), 300)

    def test_steps_of_the_net(self):
        """What a returned paper leads to is told by the net, too."""
        told = paper(FRAME, LOOKS, 4, True)
        for tick, lot in enumerate(told[:-1]):
            for standing, letter in itertools.product(lot, LETTERS):
                behind = after(FRAME, LOOKS, tick, standing, letter)
                if behind is not None and (tick != 4 or letter == "free"):
                    self.assertIn(behind, told[tick + 1])

    def test_layers_are_no_paper(self):
        self.assertIs(paper_holds(FRAME, LOOKS, 3, True, layers(FRAME, LOOKS)), False)


class Limits(unittest.TestCase):
    def hold(self, frame, looks, tick, is_taken):
        rng = random.Random(tick)
        told = paper(frame, looks, tick, is_taken)
        self.assertIs(paper_holds(frame, looks, tick, is_taken, told), True)
        turned = tuple(tuple(rng.sample(lot, len(lot))) for lot in told)
        self.assertIs(paper_holds(frame, looks, tick, is_taken, turned), True)
        self.assertIs(paper_holds(frame, looks, tick, is_taken, tuple(lot + lot[:3] for lot in told)), True)
        self.assertIs(paper_holds(frame, looks, tick, is_taken, told[:-1]), False)
        self.assertIs(paper_holds(frame, looks, tick, not is_taken, told), False)
        at = max(range(len(told)), key=lambda k: len(told[k]))
        self.assertIs(paper_holds(frame, looks, tick, is_taken, told[:at] + (told[at][1:],) + told[at + 1:]), False)
        return sum(len(lot) for lot in told)

    def test_many_standings(self):
        looks = [(Rule(1, 1, 9, "apart"), ()), (Rule(1, 2, 3, "one"), ((9, 13, "busy"),))]
        self.assertGreater(self.hold(Frame(12, 2, 6, True), looks, 3, True), 4000)
        self.assertGreater(self.hold(Frame(12, 2, 6, True), looks, 11, False), 4000)

    def test_somewhat_beyond(self):
        looks = [(Rule(2), ((2, 6, "busy"), (8, 14, "busy"))), (Rule(9, 17, 17), ((0, 18, "busy"),)), (Rule(10), ())]
        for tick, is_taken in ((0, False), (9, True)):
            self.hold(Frame(14, 2, 20, True), looks, tick, is_taken)
        self.hold(Frame(24, 7), [(Rule(), ((3, 11, "busy"),))], 3, True)


if __name__ == "__main__":
    unittest.main()
