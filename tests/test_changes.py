"""Point 22: how little must have changed between two times; and the limits of point 3."""

import random
import unittest

from brute import all_days, plain_fits, some_day, some_rule
from dimdays.changes import change, least_change
from dimdays.days import Day
from dimdays.errors import InvalidLooks
from dimdays.frames import Frame
from dimdays.knowing import is_fit
from dimdays.rules import Rule
from dimdays.showing import show

RULE, FRAME = Rule(step=2), Frame(8, shortest=2)
LOOKS = [(RULE, ((2, 6, "busy"),))]
NOTHING = [(RULE, ((1, 6, "busy"),))]
EXACT = Rule(private="apart")


def apart(one, other):
    """Return how many meetings stand in only one of two days."""
    return len(set(one.meetings) ^ set(other.meetings))


def plain_least(days, later):
    return min((apart(one, other) for one in days for other in later), default=None)


def looks_at(text):
    day = Day.read(text)
    return [(EXACT, show(EXACT, day))]


class Ordinary(unittest.TestCase):
    def test_examples(self):
        self.assertEqual((least_change(FRAME, LOOKS, LOOKS),
                          least_change(FRAME, LOOKS, [(RULE, ((2, 8, "busy"),))]),
                          least_change(FRAME, LOOKS, [(RULE, ((0, 2, "busy"),))])), (0, 1, 2))

    def check(self, frame, looks, later, wanted):
        self.assertEqual(least_change(frame, looks, later), wanted)
        pair = change(frame, looks, later)
        self.assertIs(type(pair), tuple)
        one, other = pair
        self.assertIs(is_fit(frame, looks, one), True)
        self.assertIs(is_fit(frame, later, other), True)
        self.assertEqual(apart(one, other), wanted)

    def test_days_that_are_the_same(self):
        self.check(FRAME, LOOKS, LOOKS, 0)
        self.check(FRAME, (), [], 0)
        self.check(FRAME, (), LOOKS, 0)
        self.check(FRAME, LOOKS, [(Rule(3), ((3, 6, "busy"),))], 0)
        self.check(Frame(4, most=0), (), (), 0)

    def test_meetings_that_came_or_went(self):
        frame = Frame(8)
        self.check(frame, [(Rule(), ())], [(Rule(), ((1, 3, "busy"),))], 1)
        self.check(frame, [(Rule(), ((1, 3, "busy"),))], [(Rule(), ())], 1)
        self.check(frame, [(Rule(), ())], [(Rule(), ((1, 2, "busy"), (4, 6, "busy"), (7, 8, "busy")))], 3)
        self.check(frame, [(Rule(), ((1, 3, "busy"),))], [(Rule(), ((1, 3, "busy"), (5, 6, "busy")))], 1)

    def test_a_meeting_that_moved_counts_twice(self):
        frame = Frame(8, 2)
        self.check(frame, [(Rule(), ((1, 3, "busy"),))], [(Rule(), ((2, 4, "busy"),))], 2)
        self.check(frame, [(Rule(), ((1, 3, "busy"),))], [(Rule(), ((1, 4, "busy"),))], 2)
        self.check(frame, [(Rule(), ((1, 4, "busy"),))], [(Rule(), ((1, 3, "busy"),))], 2)
        self.check(frame, [(Rule(), ((1, 4, "busy"),))], [(Rule(), ((2, 4, "busy"),))], 2)
        # With a meeting of one tick, one more is enough.
        self.check(Frame(8), [(Rule(), ((1, 3, "busy"),))], [(Rule(), ((1, 4, "busy"),))], 1)

    def test_meetings_that_begin_or_end_alike_only(self):
        frame = Frame(9, 2)
        self.check(frame, [(Rule(), ((1, 4, "busy"), (5, 7, "busy")))], [(Rule(), ((1, 3, "busy"), (5, 7, "busy")))], 2)
        self.check(frame, [(Rule(), ((1, 4, "busy"),))], [(Rule(), ((1, 3, "busy"), (4, 7, "busy")))], 3)
        looks, later = [(Rule(), ((1, 7, "busy"),))], [(Rule(), ((1, 3, "busy"), (5, 7, "busy")))]
        self.check(frame, looks, later, 1)
        self.check(Frame(9, 2, 2), looks, later, 2)
        self.check(Frame(9, 2, 2, known=[(1, True)]), later, looks, 2)
        self.check(Frame(9, 6), [(Rule(), ((1, 9, "busy"),))], [(Rule(), ((1, 8, "busy"),))], 2)

    def test_one_goes_on_where_another_begins(self):
        frame = Frame(6, 3, most=1)
        self.check(frame, [(Rule(), ((0, 6, "busy"),))], [(Rule(), ((0, 3, "busy"),))], 2)
        frame = Frame(6, 3)
        self.check(frame, [(Rule(), ((0, 6, "busy"),))], [(Rule(), ((0, 3, "busy"),))], 1)
        self.check(Frame(6, 3, known=[(0, True)]), [(Rule(), ((0, 5, "busy"),))], [(Rule(), ((0, 6, "busy"),))], 2)

    def test_private_meetings_at_the_same_place(self):
        frame = Frame(6, 3, private=True)
        self.check(frame, looks_at("6: 0-3"), looks_at("6: 0-3 private"), 2)
        self.check(frame, looks_at("6: 0-3 private"), looks_at("6: 0-3 private"), 0)
        self.check(frame, looks_at("6: 0-3 private, 3-6"), looks_at("6: 0-3, 3-6 private"), 4)
        self.check(frame, looks_at("6: 0-3 private"), [(Rule(private="none"), ())], 0)
        self.check(frame, looks_at("6: 0-3 private"), [(Rule(), ((0, 3, "busy"),))], 0)
        self.check(frame, looks_at("6: 0-3"), [(Rule(private="none"), ((0, 3, "busy"),))], 0)
        self.check(frame, looks_at("6: 0-3"), [(Rule(private="none"), ())], 1)

    def test_the_frame_holds_for_both(self):
        self.assertIsNone(least_change(Frame(8, most=1), LOOKS, [(Rule(), ((0, 1, "busy"), (3, 4, "busy")))]))
        self.check(Frame(8, most=1), [(Rule(), ((1, 3, "busy"),))], [(Rule(), ((1, 4, "busy"),))], 2)
        self.check(Frame(8, known=[(5, True)]), (), [(Rule(least=2), ())], 0)


class NoDays(unittest.TestCase):
    def test_none(self):
        contradicting = Frame(8, known=[(1, True), (1, False)])
        for frame, looks, later in ((FRAME, NOTHING, LOOKS), (FRAME, LOOKS, NOTHING), (FRAME, NOTHING, NOTHING),
                                    (FRAME, (), NOTHING), (contradicting, (), ()), (Frame(8, most=0), (), LOOKS)):
            self.assertIsNone(least_change(frame, looks, later))
            self.assertIsNone(change(frame, looks, later))


class Wrong(unittest.TestCase):
    def test_looks_then_later(self):
        one, wrong = LOOKS[0], (RULE, [])
        for looks, later, at in ((None, None, 0), ([one, wrong], [wrong], 1), ([wrong], LOOKS, 0), (LOOKS, one, 0),
                                 (LOOKS, None, 0), (LOOKS, [one, one, wrong], 2), (NOTHING, [one, wrong], 1),
                                 ([one, one, one, wrong], None, 3)):
            for call in (least_change, change):
                with self.assertRaises(InvalidLooks) as caught:
                    call(FRAME, looks, later)
                self.assertEqual(caught.exception.at, at)


class Against(unittest.TestCase):
    def test_trying_all_pairs_of_days(self):
        days = {(length, private): all_days(length, private) for length in range(1, 7) for private in (True, False)}
        rng = random.Random(22)
        counts = {}
        for seed in range(300):
            length, private = 1 + seed % 6, seed // 6 % 2 == 0
            shortest = rng.randint(1, 2)
            frame = Frame(length, rng.randint(1, shortest), rng.choice([None, None, 1, 2, 3]), private)
            if rng.random() < 0.2:
                frame = frame.knowing(rng.randrange(length), rng.random() < 0.7)
            sides = []
            for _ in range(2):
                rules = [some_rule(rng, 3, 6) for _ in range(rng.choice([0, 1, 1, 2, 2]))]
                if rng.random() < 0.7:
                    rules.append(Rule(private=rng.choice(["apart", "apart", "one", "busy"])))
                day = some_day(rng, length, shortest, private)
                sides.append([(rule, show(rule, day)) for rule in rules])
            fitting = [plain_fits(frame, looks, days[length, private]) for looks in sides]
            asked = (str(frame), sides)
            wanted = plain_least(*fitting)
            counts[wanted] = counts.get(wanted, 0) + 1
            self.assertEqual(least_change(frame, *sides), wanted, asked)
            self.assertEqual(least_change(frame, *sides[::-1]), wanted, asked)
            pair = change(frame, *sides)
            if wanted is None:
                self.assertIsNone(pair, asked)
                continue
            self.assertTrue(pair[0] in fitting[0] and pair[1] in fitting[1], asked)
            self.assertEqual(apart(*pair), wanted, asked)
        for many in (None, 0, 1, 2):
            self.assertGreater(counts[many], 30, counts)
        self.assertGreater(len(counts), 5, counts)


class Limits(unittest.TestCase):
    def compare(self, rng, length, private, many=25, looks=2):
        for _ in range(many):
            shortest = rng.randint(1, 4)
            frame = Frame(length, shortest, rng.choice([None, 16]), private)
            sides, days = [], []
            for _ in range(2):
                day = some_day(rng, length, shortest, private)
                days.append(day)
                sides.append([(rule, show(rule, day)) for rule in [some_rule(rng, 16, length + 2)
                                                                   for _ in range(looks)]])
            least = least_change(frame, *sides)
            one, other = change(frame, *sides)
            self.assertEqual(apart(one, other), least)
            self.assertLessEqual(least, apart(*days))
            self.assertEqual([is_fit(frame, sides[0], one), is_fit(frame, sides[1], other)], [True, True])
            self.assertIs(least == 0, least_change(frame, sides[0] + sides[1], ()) == 0)
            self.assertEqual(least_change(frame, sides[0], sides[0]), 0)

    def test_limits(self):
        rng = random.Random(221)
        self.compare(rng, 12, False)
        self.compare(rng, 8, True)

    def test_somewhat_beyond(self):
        rng = random.Random(222)
        self.compare(rng, 16, False, 6, 3)
        self.compare(rng, 12, True, 6, 3)

    def test_no_looks_at_all(self):
        self.assertEqual(least_change(Frame(12), (), ()), 0)
        self.assertEqual(least_change(Frame(12), [(Rule(), ())], [(Rule(), ((0, 12, "busy"),))]), 1)
        self.assertEqual(least_change(Frame(12, 1, 1), [(Rule(12), ())], [(Rule(hours=(5, 6)), ((5, 6, "busy"),))]), 1)


if __name__ == "__main__":
    unittest.main()
