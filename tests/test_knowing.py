"""Point 16: what is known of the days that fit; and the limits of point 3."""

import random
import unittest

from brute import all_days, plain_fits, some_day, some_known, some_question, some_rule
from dimdays.days import Day
from dimdays.frames import Frame
from dimdays.knowing import a_day, fits, is_fit, many_days
from dimdays.net import layers
from dimdays.rules import Rule
from dimdays.showing import show


def chained(frame, looks):
    """Return how many days fit a frame without known ticks by adding up those with the first tick free or taken."""
    return sum(many_days(frame.knowing(0, is_taken), looks) for is_taken in (True, False))


class Small(unittest.TestCase):
    def test_example_of_the_overview(self):
        rule, frame = Rule(step=2), Frame(8, shortest=2)
        looks = [(rule, ((2, 6, "busy"),))]
        self.assertEqual(many_days(frame, looks), 5)
        texts = ["8: 2-5", "8: 2-6", "8: 3-5", "8: 3-6", "8: 2-4, 4-6"]
        self.assertEqual([day for day in all_days(8, False) if is_fit(frame, looks, day)],
                         [day for day in all_days(8, False) if str(day) in texts])
        self.assertIn(str(a_day(frame, looks)), texts)

    def test_no_looks(self):
        self.assertEqual(many_days(Frame(1), ()), 2)
        self.assertEqual(many_days(Frame(2), ()), 5)
        self.assertEqual(many_days(Frame(8, 2), ()), 128)
        self.assertEqual(many_days(Frame(8, 2), []), len([1 for day in all_days(8, False) if Frame(8, 2).lets(day)]))
        self.assertEqual(many_days(Frame(2, private=True), ()), 11)
        self.assertEqual(many_days(Frame(5, 6), ()), 1)

    def test_most(self):
        self.assertEqual(many_days(Frame(5, 1, 0), ()), 1)
        self.assertEqual(a_day(Frame(5, 1, 0), ()), Day(5))
        self.assertEqual(many_days(Frame(5, 1, 0, known=[(2, True)]), ()), 0)
        self.assertEqual(many_days(Frame(5, 1, 1), ()), 16)
        self.assertEqual(many_days(Frame(5, 1, 5), ()), many_days(Frame(5), ()))
        self.assertEqual(many_days(Frame(5, 1, 4), ()), many_days(Frame(5), ()) - 1)
        self.assertEqual(many_days(Frame(5, 2, 2), ()), many_days(Frame(5, 2), ()))
        self.assertEqual(many_days(Frame(5, 2, 1), ()), many_days(Frame(5, 2), ()) - 5)

    def test_known(self):
        self.assertEqual(many_days(Frame(2, known=[(0, True)]), ()), 3)
        self.assertEqual(many_days(Frame(2, known=[(0, True), (1, True)]), ()), 2)
        self.assertEqual(many_days(Frame(2, known=[(0, False), (1, True), (0, False)]), ()), 1)
        self.assertEqual(many_days(Frame(2, known=[(0, False), (1, True), (0, True)]), ()), 0)
        self.assertIs(fits(Frame(2, known=[(0, False), (0, True)]), ()), False)
        self.assertIsNone(a_day(Frame(2, known=[(0, False), (0, True)]), ()))

    def test_is_fit(self):
        frame, looks = Frame(6, 2), [(Rule(2), ((2, 4, "busy"),)), (Rule(hours=(3, 9)), ((3, 4, "busy"),))]
        for text, wanted in (("6: 2-4", True), ("6: 3-4", False), ("6: 2-5", False), ("7: 2-4", False),
                             ("5: 2-4", False), ("6: -", False), ("6: 2-4 private", False), ("6: 1-4", False)):
            self.assertIs(is_fit(frame, looks, Day.read(text)), wanted, text)
        self.assertIs(is_fit(frame, looks[:1], Day.read("6: 2-3")), False)
        self.assertIs(is_fit(frame, [], Day.read("6: 1-4")), True)
        self.assertIs(is_fit(frame.knowing(2, False), looks, Day.read("6: 2-4")), False)

    def test_private_meetings_where_they_are_not_let(self):
        day = Day.read("6: 2-4 private")
        for rule in (Rule(), Rule(private="none"), Rule(private="apart"), Rule(private="one")):
            looks = [(rule, show(rule, day))]
            self.assertIs(is_fit(Frame(6), looks, day), False)
            self.assertIs(is_fit(Frame(6, private=True), looks, day), True)

    def test_bools(self):
        self.assertIs(fits(Frame(3), ()), True)
        self.assertIs(fits(Frame(3), [(Rule(), ((0, 9, "busy"),))]), False)
        self.assertIs(type(many_days(Frame(3), ())), int)
        self.assertIs(type(a_day(Frame(3), ())), Day)

    def test_against_trying_all_days(self):
        days = {(length, private): all_days(length, private) for length in range(1, 7) for private in (True, False)}
        none_fits = 0
        for seed in range(500):
            length, private = 1 + seed % 6, seed // 6 % 2 == 0
            frame, looks = some_question(seed, length, private, 4)
            fitting = plain_fits(frame, looks, days[length, private])
            asked = (str(frame), looks)
            self.assertEqual(many_days(frame, looks), len(fitting), asked)
            self.assertIs(fits(frame, looks), len(fitting) > 0, asked)
            self.assertEqual(a_day(frame, looks) in fitting, len(fitting) > 0, asked)
            if not fitting:
                none_fits += 1
                self.assertIsNone(a_day(frame, looks), asked)
        self.assertGreater(none_fits, 20)


class Limits(unittest.TestCase):
    def test_days_that_were_shown(self):
        rng = random.Random(16)
        for _ in range(60):
            shortest, private = rng.randint(1, 6), rng.random() < 0.7
            day = some_day(rng, 24, shortest, private)
            rules = [some_rule(rng, 16, 26) for _ in range(4)]
            looks = [(rule, show(rule, day)) for rule in rules]
            taken = day.taken
            known = [(tick, tick in taken) for tick in rng.sample(range(24), 6)]
            frame = Frame(24, shortest, rng.choice([None, len(day), 16]), private, known)
            self.assertIs(is_fit(frame, looks, day), True)
            self.assertIs(fits(frame, looks), True)
            self.assertIs(is_fit(frame, looks, a_day(frame, looks)), True)
            self.assertGreaterEqual(many_days(frame, looks), 1)
            free = Frame(24, shortest, frame.most, private)
            self.assertEqual(chained(free, looks), many_days(free, looks))

    def test_layers(self):
        rng = random.Random(17)
        for _ in range(10):
            day = some_day(rng, 24, 2, True)
            looks = [(rule, show(rule, day)) for rule in [some_rule(rng, 16, 26) for _ in range(4)]]
            frame = Frame(24, 2, 16, True, some_known(rng, day, 6))
            self.assertEqual(len(layers(frame, looks)[0]), 1 if fits(frame, looks) else 0)

    def test_looks_that_tell_little(self):
        looks = [(Rule(1, gap, 16, "apart"), ()) for gap in (0, 2, 8, 16)]
        frame = Frame(24, 1, None, True)
        self.assertIs(is_fit(frame, looks, a_day(frame, looks)), True)
        self.assertEqual(chained(frame, looks[1:2]), many_days(frame, looks[1:2]))
        self.assertEqual(many_days(frame, looks[3:]), many_days(frame, looks[3:] * 4))

    def test_somewhat_beyond(self):
        day = Day.read("30: 2-9, 12-19 private, 22-29")
        rules = [Rule(9, 17, 17), Rule(2, 20, 0, "one"), Rule(hours=(5, 49)), Rule(3), Rule(1, 0, 0, "none"), Rule(10)]
        looks = [(rule, show(rule, day)) for rule in rules]
        frame = Frame(30, 7, 20, True, [(tick, tick in day.taken) for tick in range(8)])
        self.assertIs(is_fit(frame, looks, day), True)
        self.assertEqual(many_days(frame, looks), 1)
        self.assertEqual(a_day(frame, looks), day)
        self.assertEqual(len(layers(frame, looks)), 31)

    def test_views_at_the_limits(self):
        view = tuple((at, at + 1, "busy") for at in range(0, 48, 2))
        self.assertEqual(many_days(Frame(48), [(Rule(), view)]), 1)
        self.assertEqual(many_days(Frame(24), [(Rule(), view)]), 0)
        self.assertEqual(many_days(Frame(24), [(Rule(), ((90, 99, "busy"),))]), 0)

    def test_all_days_of_a_long_frame(self):
        # A meeting can begin wherever one can go on, so a taken tick is followed by one in two ways.
        free, taken = 1, 0
        for _ in range(24):
            free, taken = free + taken, free + 2 * taken
        self.assertEqual(many_days(Frame(24), ()), free + taken)


class Again(unittest.TestCase):
    def test_equal_results(self):
        frame, looks = some_question(3, 6, True, 3)
        first = [call(frame, looks) for call in (fits, a_day, many_days, layers)]
        some = [call(Frame(4), ()) for call in (fits, a_day, many_days, layers)]
        self.assertEqual(first, [call(frame, looks) for call in (fits, a_day, many_days, layers)])
        self.assertEqual(some, [call(Frame(4), ()) for call in (fits, a_day, many_days, layers)])


if __name__ == "__main__":
    unittest.main()
