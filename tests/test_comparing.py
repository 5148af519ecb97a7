"""Point 20: rules compared by what they show; and the limits of point 3."""

import itertools
import random
import unittest

from brute import all_days, plain_lets, plain_show, some_day, some_known, some_rule
from dimdays.comparing import finer, parting, views
from dimdays.days import Day
from dimdays.frames import Frame
from dimdays.knowing import many_days
from dimdays.rules import Rule, alike
from dimdays.showing import is_view, show


def plain_views(rule, days):
    counts = {}
    for day in days:
        view = plain_show(rule, day)
        counts[view] = counts.get(view, 0) + 1
    return tuple(sorted(counts.items()))


def plain_finer(p, q, days):
    told = {}
    return all(told.setdefault(plain_show(p, day), plain_show(q, day)) == plain_show(q, day) for day in days)


def some_frame(rng, length, private):
    """Return a frame, mostly with days."""
    shortest = rng.randint(1, 3)
    day = some_day(rng, length, shortest, private)
    most = rng.choice([None, None, len(day), 2, 0])
    return Frame(length, shortest, most, private, some_known(rng, day, rng.choice([0, 0, 1, 2])))


class Ordinary(unittest.TestCase):
    def test_examples(self):
        self.assertEqual(views(Frame(2), Rule(step=2)), (((), 1), (((0, 2, "busy"),), 4)))
        self.assertIs(finer(Frame(6), Rule(2), Rule(4)), True)
        self.assertIs(finer(Frame(6), Rule(2), Rule(3)), False)

    def test_views(self):
        self.assertEqual(views(Frame(2), Rule()), (((), 1), (((0, 1, "busy"),), 1), (((0, 2, "busy"),), 2),
                                                   (((1, 2, "busy"),), 1)))
        self.assertEqual(views(Frame(2, private=True), Rule(private="apart")), (
            ((), 1), (((0, 1, "busy"),), 1), (((0, 1, "busy"), (1, 2, "private")), 1), (((0, 1, "private"),), 1),
            (((0, 1, "private"), (1, 2, "busy")), 1), (((0, 2, "busy"),), 2), (((0, 2, "private"),), 2),
            (((1, 2, "busy"),), 1), (((1, 2, "private"),), 1)))
        self.assertEqual(views(Frame(3, private=True, most=1), Rule(2, private="one", hours=(1, 9))), (
            ((), 1), (((1, 2, "busy"),), 3), (((1, 2, "private"),), 3), (((1, 4, "busy"),), 2),
            (((1, 4, "private"),), 2), (((2, 4, "busy"),), 1), (((2, 4, "private"),), 1)))

    def test_hours(self):
        self.assertEqual(views(Frame(3, most=1), Rule(2, hours=(1, 9))), (
            ((), 1), (((1, 2, "busy"),), 3), (((1, 4, "busy"),), 2), (((2, 4, "busy"),), 1)))
        self.assertEqual(views(Frame(3), Rule(hours=(5, 9))), (((), 13),))

    def test_no_days_and_one_day(self):
        rule, other = Rule(), Rule(2)
        frame = Frame(3, known=[(1, True), (1, False)])
        self.assertEqual(views(frame, rule), ())
        self.assertIs(finer(frame, rule, other), True)
        self.assertIs(finer(frame, other, rule), True)
        self.assertIsNone(parting(frame, other, rule))
        frame = Frame(3, most=0)
        self.assertEqual(views(frame, rule), (((), 1),))
        self.assertIs(finer(frame, other, rule), True)
        self.assertEqual(views(Frame(3, most=0, known=[(0, True)]), rule), ())

    def test_partings(self):
        frame = Frame(6)
        one, other = parting(frame, Rule(2), Rule(3))
        self.assertEqual(show(Rule(2), one), show(Rule(2), other))
        self.assertNotEqual(show(Rule(3), one), show(Rule(3), other))
        self.assertIs(frame.lets(one) and frame.lets(other), True)
        self.assertIsNone(parting(frame, Rule(2), Rule(4)))
        self.assertEqual({str(day) for day in parting(Frame(1), Rule(hours=(3, 5)), Rule())}, {"1: -", "1: 0-1"})

    def test_rules_that_show_all_days_alike(self):
        frame = Frame(5, private=True)
        for p, q in ((Rule(2, 1), Rule(2, 0, 2)), (Rule(4, 7, 5, "one"), Rule(4, 4, 8, "one")), (Rule(), Rule()),
                     (Rule(3, 2, 3, "none"), Rule(3, 0, 0, "none"))):
            self.assertIs(alike(p, q), True)
            self.assertEqual(views(frame, p), views(frame, q))
            self.assertIs(finer(frame, p, q), True)
            self.assertIs(finer(frame, q, p), True)
            self.assertIsNone(parting(frame, p, q))
            self.assertIsNone(parting(frame, q, p))

    def test_rules_that_show_all_days_as_nothing(self):
        frame, blind = Frame(4), Rule(least=5)
        self.assertEqual(views(frame, blind), (((), many_days(frame, ())),))
        self.assertIs(finer(frame, Rule(), blind), True)
        self.assertIs(finer(frame, blind, Rule()), False)
        self.assertIs(finer(frame, blind, Rule(hours=(4, 5))), True)

    def test_private_meetings(self):
        apart, busy, none, one = [Rule(private=word) for word in ("apart", "busy", "none", "one")]
        frame = Frame(4, private=True)
        for p, q, wanted in ((apart, one, True), (apart, none, True), (apart, busy, True), (one, none, True),
                             (one, apart, False), (none, one, False), (busy, none, False), (none, busy, False),
                             (one, busy, False)):
            self.assertIs(finer(frame, p, q), wanted, (str(p), str(q)))
            self.assertIs(finer(Frame(4), p, q), True)

    def test_it_is_told_of_the_frame(self):
        p, q = Rule(2), Rule()
        self.assertIs(finer(Frame(4), p, q), False)
        self.assertIs(finer(Frame(4, known=[(tick, True) for tick in range(4)]), p, q), True)
        self.assertIs(finer(Frame(1), p, q), True)


class Against(unittest.TestCase):
    def test_trying_all_days(self):
        rng = random.Random(20)
        days = {(length, private): all_days(length, private) for length in range(1, 7) for private in (True, False)}
        told = {True: 0, False: 0}
        for seed in range(200):
            length, private = 1 + seed % 6, seed // 6 % 2 == 0
            frame = some_frame(rng, length, private)
            p, q = some_rule(rng, 4, 7), some_rule(rng, 4, 7)
            if rng.random() < 0.6:
                q = p.but(**{rng.choice(["step", "gap", "least"]): rng.randint(1, 4)})
            let = [day for day in days[length, private] if plain_lets(frame, day)]
            asked = (str(frame), str(p), str(q))
            self.assertEqual(views(frame, p), plain_views(p, let), asked)
            wanted = plain_finer(p, q, let)
            told[wanted] += 1
            self.assertIs(finer(frame, p, q), wanted, asked)
            pair = parting(frame, p, q)
            if wanted:
                self.assertIsNone(pair, asked)
                continue
            self.assertIs(type(pair), tuple)
            one, other = pair
            self.assertTrue(one in let and other in let, asked)
            self.assertEqual(plain_show(p, one), plain_show(p, other), asked)
            self.assertNotEqual(plain_show(q, one), plain_show(q, other), asked)
        self.assertGreater(min(told.values()), 30)

    def test_how_many_days_fit_each_view(self):
        rng = random.Random(21)
        for private in (True, False):
            for _ in range(6):
                frame, rule = some_frame(rng, 7, private), some_rule(rng, 4, 8)
                for view, many in views(frame, rule):
                    self.assertIs(is_view(view), True)
                    self.assertEqual(many_days(frame, [(rule, view)]), many)


class Limits(unittest.TestCase):
    def compare(self, frame, rules):
        whole = many_days(frame, ())
        for rule in rules:
            told = views(frame, rule)
            self.assertEqual(sum(many for _, many in told), whole)
            self.assertEqual(told, tuple(sorted(told)))
            self.assertEqual(len({view for view, _ in told}), len(told))
            self.assertIs(finer(frame, rule, rule), True)
        for p, q in itertools.permutations(rules, 2):
            pair = parting(frame, p, q)
            self.assertIs(finer(frame, p, q), pair is None)
            if pair is not None:
                self.assertEqual([frame.lets(day) for day in pair], [True, True])
                self.assertEqual(show(p, pair[0]), show(p, pair[1]))
                self.assertNotEqual(show(q, pair[0]), show(q, pair[1]))

    RULES = [Rule(), Rule(private="apart"), Rule(1, 2, 3, "one", (2, 7)), Rule(8, 16, 16), Rule(2, 1, 5, "none")]

    def test_limits(self):
        self.compare(Frame(10), self.RULES)
        self.compare(Frame(8, private=True), self.RULES)
        self.compare(Frame(8, 1, 16, True), self.RULES)
        self.compare(Frame(10, 2, 3, False, [(4, True), (5, True), (0, False), (9, False)]), self.RULES)

    def test_somewhat_beyond(self):
        self.compare(Frame(12), self.RULES[1:4])
        self.compare(Frame(9, private=True), self.RULES[2:] + [Rule(9, 17, 17, "apart", (3, 50))])
        self.assertEqual(len(views(Frame(14), Rule())), 2 ** 14)
        self.assertEqual(views(Frame(24, 20), Rule(24)), (((), 1), (((0, 24, "busy"),), 15)))

    def test_days(self):
        for day in parting(Frame(3), Rule(3), Rule(2)):
            self.assertIs(type(day), Day)


if __name__ == "__main__":
    unittest.main()
