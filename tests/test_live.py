"""Point 23: live things; and the limits of point 3."""

import random
import unittest

from brute import some_day, some_rule
from dimdays.days import Day
from dimdays.errors import InvalidFrame, InvalidLooks, Refused
from dimdays.frames import Frame
from dimdays.knowing import many_days
from dimdays.live import Live
from dimdays.rules import Rule
from dimdays.showing import show
from samples import things

RULE, FRAME = Rule(step=2), Frame(8, shortest=2)
VIEW = ((2, 6, "busy"),)
LOOK = (RULE, VIEW)
OTHER = (Rule(3), ((3, 6, "busy"),))


class Base(unittest.TestCase):
    def state(self, live):
        return live.frame, live.looks, len(live)

    def same(self, live, state):
        self.assertEqual(self.state(live), state)

    def refuse(self, live, error, call):
        """Hold that a call raises an error and that nothing changes; return the error."""
        before = self.state(live)
        with self.assertRaises(error) as caught:
            call()
        self.assertIs(type(caught.exception), error)
        self.same(live, before)
        return caught.exception


class Ordinary(Base):
    def test_at_first(self):
        live = Live(FRAME)
        self.assertEqual(live.frame, FRAME)
        self.assertEqual(live.looks, ())
        self.assertIs(type(live.looks), tuple)
        self.assertEqual(len(live), 0)

    def test_look(self):
        live = Live(FRAME)
        self.assertEqual(live.look(RULE, VIEW), 5)
        self.same(live, (FRAME, (LOOK,), 1))
        self.assertEqual(live.look(*OTHER), many_days(FRAME, [LOOK, OTHER]))
        self.same(live, (FRAME, (LOOK, OTHER), 2))
        self.assertEqual(live.look(*LOOK), many_days(FRAME, [LOOK, OTHER]))
        self.same(live, (FRAME, (LOOK, OTHER, LOOK), 3))
        self.assertEqual(live.look(Rule(), ()), 0)
        self.assertEqual(len(live), 4)

    def test_know(self):
        live = Live(FRAME)
        self.assertEqual(live.know(2, False), many_days(FRAME.knowing(2, False), ()))
        self.same(live, (FRAME.knowing(2, False), (), 1))
        live.look(RULE, VIEW)
        self.assertEqual(live.know(5, True), 1)
        self.same(live, (Frame(8, 2, known=[(2, False), (5, True)]), (LOOK,), 3))
        self.assertEqual(live.know(5, False), 0)
        self.assertEqual(live.know(5, False), 0)
        self.same(live, (Frame(8, 2, known=[(2, False), (5, True), (5, False), (5, False)]), (LOOK,), 5))

    def test_several(self):
        for looks in ([LOOK, OTHER], (LOOK, OTHER)):
            live = Live(FRAME)
            self.assertEqual(live.several(looks), many_days(FRAME, [LOOK, OTHER]))
            self.same(live, (FRAME, (LOOK, OTHER), 1))
            self.assertEqual(live.several([LOOK]), many_days(FRAME, [LOOK, OTHER]))
            self.same(live, (FRAME, (LOOK, OTHER, LOOK), 2))

    def test_several_of_none(self):
        live = Live(FRAME)
        self.assertEqual(live.several([]), 128)
        self.assertEqual(live.several(()), 128)
        self.same(live, (FRAME, (), 2))
        self.assertIs(live.undo(), True)
        self.assertIs(live.undo(), True)
        self.assertIs(live.undo(), False)

    def test_undo(self):
        live = Live(FRAME)
        states = [self.state(live)]
        for deed in (lambda: live.look(*LOOK), lambda: live.know(3, True), lambda: live.several([LOOK, OTHER]),
                     lambda: live.several([]), lambda: live.know(2, True), lambda: live.look(*OTHER)):
            deed()
            states.append(self.state(live))
        for state in states[-2::-1]:
            self.assertIs(live.undo(), True)
            self.same(live, state)
        self.assertIs(live.undo(), False)
        self.same(live, states[0])
        self.assertIs(live.undo(), False)
        self.assertEqual(live.look(*LOOK), 5)
        self.same(live, (FRAME, (LOOK,), 1))
        self.assertIs(live.undo(), True)
        self.same(live, states[0])

    def test_later_changes_have_no_effect(self):
        live, looks = Live(FRAME), [LOOK]
        live.several(looks)
        looks.append(OTHER)
        looks[0] = None
        self.same(live, (FRAME, (LOOK,), 1))
        kept = live.looks
        live.look(*OTHER)
        self.assertEqual(kept, (LOOK,))

    def test_live_things_share_nothing(self):
        one, other = Live(FRAME), Live(FRAME)
        one.look(*LOOK)
        one.know(2, False)
        self.same(other, (FRAME, (), 0))
        self.assertEqual(str(FRAME), "length 8 shortest 2")


class Errors(Base):
    def test_look(self):
        for looks in range(3):
            live = Live(FRAME)
            for _ in range(looks):
                live.look(*LOOK)
                live.know(3, True)
            for thing in things():
                for rule, view in ((thing, VIEW), (thing, thing)):
                    if not (isinstance(rule, Rule) and view == VIEW):
                        if isinstance(thing, Rule):
                            continue
                        error = self.refuse(live, InvalidLooks, lambda: live.look(rule, view))
                        self.assertEqual(error.at, looks)
                if thing not in ((), ((1, 3, "busy"),)):
                    self.assertEqual(self.refuse(live, InvalidLooks, lambda: live.look(RULE, thing)).at, looks)
            for view in ([], None, [(2, 6, "busy")], ((2, 6, "free"),), ((6, 2, "busy"),), ([2, 6, "busy"],),
                         ((3, 4, "busy"), (1, 2, "busy")), ((True, 2, "busy"),), "2-6 busy"):
                self.assertEqual(self.refuse(live, InvalidLooks, lambda: live.look(RULE, view)).at, looks)

    def test_look_counts_looks_and_not_deeds(self):
        live = Live(FRAME)
        live.several([LOOK, OTHER, LOOK])
        live.know(2, True)
        self.assertEqual(self.refuse(live, InvalidLooks, lambda: live.look(RULE, [])).at, 3)

    def test_know(self):
        live = Live(FRAME)
        live.look(*LOOK)
        for thing in things():
            if isinstance(thing, bool) or thing not in (0, 1, 2):
                self.assertEqual(self.refuse(live, InvalidFrame, lambda: live.know(thing, True)).word, "known")
            if not isinstance(thing, bool):
                self.assertEqual(self.refuse(live, InvalidFrame, lambda: live.know(1, thing)).word, "known")
            self.assertEqual(self.refuse(live, InvalidFrame, lambda: live.know(8, thing)).word, "known")

    def test_several(self):
        live = Live(FRAME)
        live.look(*LOOK)
        for thing in things():
            if not isinstance(thing, (list, tuple)):
                self.assertEqual(self.refuse(live, Refused, lambda: live.several(thing)).at, 0)
            self.assertEqual(self.refuse(live, Refused, lambda: live.several([thing, LOOK])).at, 0)
            self.assertEqual(self.refuse(live, Refused, lambda: live.several((LOOK, LOOK, thing, None))).at, 2)
        self.assertEqual(self.refuse(live, Refused, lambda: live.several(LOOK)).at, 0)
        self.assertEqual(self.refuse(live, Refused, lambda: live.several([LOOK, (RULE, [])])).at, 1)

    def test_refused_is_raised_from_invalid_looks(self):
        live = Live(FRAME)
        for looks, at in ((None, 0), ([LOOK, None], 1), ([LOOK, OTHER, [RULE, VIEW]], 2)):
            error = self.refuse(live, Refused, lambda: live.several(looks))
            self.assertEqual(error.at, at)
            self.assertIs(type(error.__cause__), InvalidLooks)
            self.assertEqual(error.__cause__.at, at)


class Within(Base):
    def test_returns_what_work_returns(self):
        live = Live(FRAME)
        self.assertIsNone(live.within(lambda one: None))
        self.assertEqual(live.within(lambda one: [len(one), one.look(*LOOK), len(one)]), [0, 5, 1])
        self.assertIs(live.within(lambda one: one), live)
        self.same(live, (FRAME, (), 0))

    def test_all_is_as_it_was(self):
        live = Live(FRAME)
        live.look(*LOOK)
        live.know(3, True)
        before = self.state(live)

        def work(one):
            one.several([LOOK, OTHER])
            one.know(2, False)
            one.look(*OTHER)
            return self.state(one)

        told = live.within(work)
        self.assertEqual(told, (FRAME.knowing(3, True).knowing(2, False), (LOOK, LOOK, OTHER, OTHER), 5))
        self.same(live, before)
        self.assertIs(live.undo(), True)
        self.same(live, (FRAME, (LOOK,), 1))
        self.assertIs(live.undo(), True)
        self.assertIs(live.undo(), False)

    def test_with_undo_inside(self):
        live = Live(FRAME)
        live.look(*LOOK)
        live.know(3, True)
        before = self.state(live)

        def work(one):
            told = [one.undo(), one.undo(), one.undo(), len(one), one.looks, one.frame]
            one.know(0, True)
            return told

        self.assertEqual(live.within(work), [True, True, False, 0, (), FRAME])
        self.same(live, before)
        self.assertEqual([live.undo(), self.state(live)], [True, (FRAME, (LOOK,), 1)])
        self.assertEqual([live.undo(), self.state(live)], [True, (FRAME, (), 0)])

    def test_with_an_error(self):
        live = Live(FRAME)
        live.look(*LOOK)
        before = self.state(live)
        wrong = KeyError("some")

        def work(one):
            one.know(2, False)
            one.undo()
            one.undo()
            one.several([OTHER, OTHER])
            raise wrong

        with self.assertRaises(KeyError) as caught:
            live.within(work)
        self.assertIs(caught.exception, wrong)
        self.same(live, before)
        self.assertIs(live.undo(), True)
        self.same(live, (FRAME, (), 0))

    def test_with_errors_of_the_live_thing(self):
        live = Live(FRAME)
        live.look(*LOOK)

        def work(one):
            one.look(*OTHER)
            one.look(RULE, None)

        self.assertEqual(self.refuse(live, InvalidLooks, lambda: live.within(work)).at, 2)
        self.assertEqual(self.refuse(live, InvalidFrame, lambda: live.within(lambda one: one.know(9, True))).word,
                         "known")
        self.assertEqual(self.refuse(live, Refused, lambda: live.within(lambda one: one.several([LOOK, 3]))).at, 1)

    def test_within_within(self):
        live = Live(FRAME)
        live.look(*LOOK)
        told = []

        def inner(one):
            told.append(self.state(one))
            one.undo()
            one.several([LOOK] * 3)
            told.append(self.state(one))
            raise ZeroDivisionError

        def outer(one):
            one.know(2, False)
            ahead = self.state(one)
            try:
                one.within(inner)
            except ZeroDivisionError:
                told.append(self.state(one) == ahead)
            one.undo()
            one.undo()
            return one.within(len)

        self.assertEqual(live.within(outer), 0)
        frame = FRAME.knowing(2, False)
        self.assertEqual(told, [(frame, (LOOK,), 2), (FRAME, (LOOK,) * 4, 2), True])
        self.same(live, (FRAME, (LOOK,), 1))

    def test_by_name(self):
        live = Live(frame=FRAME)
        self.assertEqual(live.look(view=VIEW, rule=RULE), 5)
        self.assertEqual(live.know(is_taken=False, tick=2), 2)
        self.assertEqual(live.several(looks=[]), 2)
        self.assertEqual(live.within(work=len), 3)


class Limits(Base):
    def test_forty_deeds(self):
        rng = random.Random(40)
        day = some_day(rng, 24, 2, True)
        frame = Frame(24, 2, 16, True)
        live = Live(frame)
        states = []
        for deed in range(44):
            states.append(self.state(live))
            if deed % 11 == 3:
                tick = rng.randrange(24)
                many = live.know(tick, tick in day.taken)
            elif deed % 11 == 7:
                many = live.several([(rule, show(rule, day)) for rule in (some_rule(rng, 16, 26), Rule(3))])
            else:
                rule = some_rule(rng, 16, 26)
                many = live.look(rule, show(rule, day))
            self.assertGreaterEqual(many, 1)
            self.assertEqual(len(live), deed + 1)
        self.assertEqual(many, many_days(live.frame, live.looks))
        for state in reversed(states):
            self.assertIs(live.undo(), True)
            self.same(live, state)
        self.assertIs(live.undo(), False)

    def test_against_taking_back(self):
        """Hold a live thing against a list of all it was, through deeds in any order."""
        rng = random.Random(41)
        day = Day.read("6: 1-3, 3-5 private")
        live = Live(Frame(6, private=True))
        past = [(live.frame, live.looks)]
        for _ in range(60):
            way = rng.randrange(5)
            frame, looks = past[-1]
            rule = some_rule(rng, 3, 8)
            look = (rule, show(rule, day))
            if way == 0:
                self.assertEqual(live.look(*look), many_days(frame, looks + (look,)))
                past.append((frame, looks + (look,)))
            elif way == 1:
                tick = rng.randrange(6)
                self.assertEqual(live.know(tick, True), many_days(frame.knowing(tick, True), looks))
                past.append((frame.knowing(tick, True), looks))
            elif way == 2:
                self.assertEqual(live.several([look, look]), many_days(frame, looks + (look,)))
                past.append((frame, looks + (look, look)))
            else:
                self.assertIs(live.undo(), len(past) > 1)
                past = past[:-1] if len(past) > 1 else past
            self.same(live, (*past[-1], len(past) - 1))


if __name__ == "__main__":
    unittest.main()
