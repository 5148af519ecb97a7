"""Points 8, 9 and 10: views, their texts, and the normal rule that shows every day alike."""

import random
import unittest

from brute import all_days, plain_show, some_day, some_rule
from dimdays.days import Day
from dimdays.errors import InvalidText
from dimdays.rules import Rule, alike
from dimdays.showing import is_view, read_view, show, view_text
from samples import nested, things, without_kinds

DAYS = all_days(6)


class Showing(unittest.TestCase):
    def see(self, rule, text, view):
        self.assertEqual(show(rule, Day.read(text)), view, (str(rule), text))

    def test_example_of_the_overview(self):
        self.assertEqual(show(Rule(step=2), Day(8, [(3, 5, False)])), ((2, 6, "busy"),))

    def test_examples(self):
        text = "12: 1-2, 4-6 private, 9-10"
        self.see(Rule(gap=2), text, ((1, 6, "busy"), (9, 10, "busy")))
        self.see(Rule(step=2, private="apart"), text, ((0, 2, "busy"), (4, 6, "private"), (8, 10, "busy")))
        self.see(Rule(gap=2, least=2, private="none", hours=(0, 5)), text, ())
        self.see(Rule(least=2), text, ((4, 6, "busy"),))

    def test_no_meetings(self):
        for private in ("busy", "none", "apart", "one"):
            self.see(Rule(3, 16, 0, private, (0, 48)), "12: -", ())

    def test_words_of_private_meetings(self):
        text = "20: 1-2 private, 4-5, 7-8 private, 12-14"
        self.see(Rule(), text, ((1, 2, "busy"), (4, 5, "busy"), (7, 8, "busy"), (12, 14, "busy")))
        self.see(Rule(private="none"), text, ((4, 5, "busy"), (12, 14, "busy")))
        self.see(Rule(private="apart"), text,
                 ((1, 2, "private"), (4, 5, "busy"), (7, 8, "private"), (12, 14, "busy")))
        self.see(Rule(private="one"), text, ((1, 8, "private"), (4, 5, "busy"), (12, 14, "busy")))

    def test_put_to_steps(self):
        self.see(Rule(4), "12: 5-6", ((4, 8, "busy"),))
        self.see(Rule(4), "12: 4-8", ((4, 8, "busy"),))
        self.see(Rule(4), "12: 3-9", ((0, 12, "busy"),))
        self.see(Rule(8), "20: 0-1, 19-20", ((0, 8, "busy"), (16, 24, "busy")))

    def test_behind_the_length_of_the_day(self):
        self.see(Rule(5), "12: 11-12", ((10, 15, "busy"),))
        self.see(Rule(8), "1: 0-1", ((0, 8, "busy"),))
        self.see(Rule(5, hours=(0, 14)), "12: 11-12", ((10, 14, "busy"),))
        self.see(Rule(5, hours=(13, 40)), "12: 11-12", ((13, 15, "busy"),))

    def test_touching_meetings_are_joined(self):
        self.see(Rule(), "12: 1-3, 3-5", ((1, 5, "busy"),))
        self.see(Rule(), "12: 1-3, 3-5 private", ((1, 5, "busy"),))
        self.see(Rule(private="apart"), "12: 1-3 private, 3-5 private", ((1, 5, "private"),))

    def test_blocks_that_touch_or_overlap_by_their_step_are_joined(self):
        self.see(Rule(2), "12: 0-1, 3-4", ((0, 4, "busy"),))
        self.see(Rule(4), "12: 0-1, 2-3", ((0, 4, "busy"),))
        self.see(Rule(4), "12: 0-5, 6-9", ((0, 12, "busy"),))

    def test_gaps(self):
        text = "12: 0-1, 2-3, 5-6, 9-10"
        self.see(Rule(), text, ((0, 1, "busy"), (2, 3, "busy"), (5, 6, "busy"), (9, 10, "busy")))
        self.see(Rule(gap=1), text, ((0, 3, "busy"), (5, 6, "busy"), (9, 10, "busy")))
        self.see(Rule(gap=2), text, ((0, 6, "busy"), (9, 10, "busy")))
        self.see(Rule(gap=3), text, ((0, 10, "busy"),))

    def test_gaps_around_multiples_of_the_step(self):
        text = "12: 0-2, 4-5, 10-12"
        for gap in (0, 1):
            self.see(Rule(2, gap), text, ((0, 2, "busy"), (4, 6, "busy"), (10, 12, "busy")))
        for gap in (2, 3):
            self.see(Rule(2, gap), text, ((0, 6, "busy"), (10, 12, "busy")))
        for gap in (4, 5, 16):
            self.see(Rule(2, gap), text, ((0, 12, "busy"),))

    def test_unlike_words_are_not_joined(self):
        self.see(Rule(2, 16, private="apart"), "12: 1-3, 3-5 private, 6-7",
                 ((0, 8, "busy"), (2, 6, "private")))
        self.see(Rule(gap=1, private="apart"), "12: 1-2, 3-4 private", ((1, 2, "busy"), (3, 4, "private")))
        self.see(Rule(gap=1, private="none"), "12: 1-2, 3-4 private, 5-6", ((1, 2, "busy"), (5, 6, "busy")))

    def test_one_block_for_all_private_ones(self):
        text = "40: 1-2 private, 4-5, 39-40 private"
        self.see(Rule(private="one"), text, ((1, 40, "private"), (4, 5, "busy")))
        self.see(Rule(3, 0, 39, "one", (2, 30)), text, ((2, 30, "private"),))
        self.see(Rule(private="one"), "40: 4-5, 8-9", ((4, 5, "busy"), (8, 9, "busy")))
        self.see(Rule(private="apart", gap=3), text, ((1, 2, "private"), (4, 5, "busy"), (39, 40, "private")))

    def test_least_around_the_length_of_a_block(self):
        self.see(Rule(least=3), "12: 4-7", ((4, 7, "busy"),))
        self.see(Rule(least=4), "12: 4-7", ())
        self.see(Rule(step=4, least=4), "12: 5-6", ((4, 8, "busy"),))
        self.see(Rule(step=4, least=5), "12: 5-6", ())
        self.see(Rule(private="apart", least=2), "12: 1-2, 3-4 private, 5-7 private", ((5, 7, "private"),))

    def test_least_behind_joining(self):
        self.see(Rule(gap=1, least=3), "12: 1-2, 3-4, 8-9", ((1, 4, "busy"),))
        self.see(Rule(least=4, private="one"), "12: 1-2 private, 4-5 private", ((1, 5, "private"),))

    def test_least_ahead_of_the_hours(self):
        self.see(Rule(least=4, hours=(5, 6)), "12: 2-6", ((5, 6, "busy"),))
        self.see(Rule(least=4, hours=(0, 12)), "12: 2-5", ())

    def test_hours(self):
        text = "20: 2-5, 7-9, 12-16"
        self.see(Rule(hours=(3, 14)), text, ((3, 5, "busy"), (7, 9, "busy"), (12, 14, "busy")))
        self.see(Rule(hours=(5, 12)), text, ((7, 9, "busy"),))
        self.see(Rule(hours=(9, 12)), text, ())
        self.see(Rule(hours=(16, 48)), text, ())
        self.see(Rule(hours=(0, 2)), text, ())
        self.see(Rule(hours=(13, 14)), text, ((13, 14, "busy"),))
        self.see(Rule(hours=(30, 48)), text, ())

    def test_joining_ahead_of_the_hours(self):
        self.see(Rule(gap=3, hours=(5, 6)), "12: 2-4, 7-9", ((5, 6, "busy"),))
        self.see(Rule(private="one", hours=(5, 6)), "12: 2-4 private, 7-9 private", ((5, 6, "private"),))

    def test_order(self):
        self.see(Rule(4, private="apart"), "12: 0-1 private, 1-2", ((0, 4, "busy"), (0, 4, "private")))
        self.see(Rule(4, private="apart"), "12: 0-1 private, 1-6", ((0, 4, "private"), (0, 8, "busy")))
        self.see(Rule(private="one"), "12: 0-1, 1-2 private, 3-4, 5-6 private",
                 ((0, 1, "busy"), (1, 6, "private"), (3, 4, "busy")))

    def test_tuples(self):
        view = show(Rule(), Day(4, [(0, 1, False), (2, 3, True)]))
        self.assertIs(type(view), tuple)
        self.assertTrue(all(type(block) is tuple for block in view))

    def test_all_small_days(self):
        rng = random.Random(8)
        for _ in range(25):
            rule = some_rule(rng)
            for day in DAYS:
                self.assertEqual(show(rule, day), plain_show(rule, day), (str(rule), str(day)))

    def test_days_and_rules_at_the_limits(self):
        rng = random.Random(9)
        for _ in range(300):
            rule, day = some_rule(rng, 16, 48), some_day(rng, 48, rng.randint(1, 3), True)
            view = show(rule, day)
            self.assertEqual(view, plain_show(rule, day), (str(rule), str(day)))
            self.assertTrue(is_view(view))
            self.assertEqual(read_view(view_text(view)), view)


class Normal(unittest.TestCase):
    def test_every_day_alike(self):
        rng = random.Random(10)
        for _ in range(60):
            rule = some_rule(rng, 7, 12)
            for day in DAYS[::7] + [some_day(rng, 14, 1, True) for _ in range(20)]:
                self.assertEqual(show(rule, day), show(rule.normal, day), (str(rule), str(day)))

    def test_ends_of_blocks(self):
        rng = random.Random(11)
        for _ in range(100):
            rule, day = some_rule(rng).but(hours=None), some_day(rng, 20, 1, True)
            for begin, end, _ in show(rule, day):
                self.assertEqual((begin % rule.step, end % rule.step), (0, 0))

    def test_alike_just_if_shown_alike(self):
        days = [Day(24, [(begin, begin + long, word), (begin + long + free, begin + long + free + 1, word)])
                for begin in range(3) for long in (1, 2, 4) for free in range(9) for word in (False, True)]
        days += [Day(24, [(0, end, word)]) for end in range(1, 13) for word in (False, True)]
        rules = [Rule(step, gap, least, private) for step in (1, 2, 3) for gap in (0, 1, 2, 3)
                 for least in (0, 2, 3) for private in ("busy", "none", "apart", "one")]
        shown = [tuple(show(rule, day) for day in days) for rule in rules]
        for at, p in enumerate(rules):
            for also, q in enumerate(rules):
                self.assertIs(alike(p, q), shown[at] == shown[also], (str(p), str(q)))


VIEWS = [
    (), ((0, 1, "busy"),), ((2, 6, "busy"), (8, 10, "private")), ((0, 4, "busy"), (0, 4, "private")),
    ((0, 4, "private"), (0, 5, "busy")), ((0, 4, "busy"), (1, 3, "busy")), ((0, 48, "private"), (98, 99, "busy")),
    tuple((at, at + 1, "busy") for at in range(24)),
]

NO_VIEWS = [
    [], [(0, 1, "busy")], ([0, 1, "busy"],), (0, 1, "busy"), ((0, 1),), ((0, 1, "busy", 0),), ((0, 1, "free"),),
    ((0, 1, "Busy"),), ((0, 1, None),), ((0, 1, ("busy",)),), ((0, 1, ["busy"]),), ((0, 1, False),), ((1, 1, "busy"),),
    ((2, 1, "busy"),), ((-1, 1, "busy"),), ((False, 1, "busy"),), ((0, True, "busy"),), ((0, None, "busy"),),
    (("0", 1, "busy"),), ((0, "1", "busy"),), ((0, (1,), "busy"),), ((0, 1, Rule()),), ((0, Day(1), "busy"),),
    ((0, 1, "busy"), (0, 1, "busy")), ((2, 3, "busy"), (0, 1, "busy")), ((0, 3, "busy"), (0, 2, "busy")),
    ((0, 4, "private"), (0, 4, "busy")), ((0, 1, "busy"), None), ((0, 1, "busy"), (2, 3, "free")),
    ((0, 1, "busy"), ((2, 3, "busy"),)), (("busy", 0, 1),), (((0, 1, "busy"),),), ((),), ("0-1 busy",), "0-1 busy", "-",
]


class IsView(unittest.TestCase):
    def test_views(self):
        for value in VIEWS:
            self.assertIs(is_view(value), True, value)

    def test_great_numbers(self):
        self.assertIs(is_view(((0, 10 ** 30, "busy"),)), True)

    def test_others(self):
        for value in NO_VIEWS:
            self.assertIs(is_view(value), False, value)

    def test_any_value(self):
        for value in things():
            self.assertIs(is_view(value), value in ((), ((1, 3, "busy"),)), value)
            self.assertIs(is_view((value,)), False, value)
            self.assertIs(is_view(((0, 3, "busy"), value)), False, value)

    def test_any_value_in_a_block(self):
        for value in without_kinds(int):
            self.assertIs(is_view(((value, 3, "busy"),)), False, value)
            self.assertIs(is_view(((0, value, "busy"),)), False, value)
        for value in things():
            if value not in ("busy", "private"):
                self.assertIs(is_view(((0, 3, value),)), False, value)
        self.assertIs(is_view(nested(8, (0, 1, "busy"))), False)


class Texts(unittest.TestCase):
    def test_examples(self):
        view = ((2, 6, "busy"), (8, 10, "private"))
        self.assertEqual(view_text(view), "2-6 busy, 8-10 private")
        self.assertEqual(read_view("2-6 busy, 8-10 private"), view)
        self.assertEqual(view_text(()), "-")
        self.assertEqual(read_view("-"), ())

    def test_there_and_back(self):
        for view in VIEWS:
            self.assertEqual(read_view(view_text(view)), view)
            self.assertIs(type(read_view(view_text(view))), tuple)

    def refuse(self, text):
        with self.assertRaises(InvalidText) as caught:
            read_view(text)
        self.assertEqual(caught.exception.at, 0, text)

    def test_other_forms(self):
        for text in ("", " ", "--", "- ", " -", "-\n", "2-6", "2-6 busy,", "2-6 busy, ", "2-6 busy,8-10 busy",
                     "2-6 busy , 8-10 busy", "2-6 busy 8-10 busy", "2-6  busy", " 2-6 busy", "2-6 busy ", "2-6 Busy",
                     "2-6 busy\n", "2-6\nbusy", "2-6 busy,  8-10 busy", "2-6 free", "2 6 busy", "2-6-8 busy", "-6 busy",
                     "2- busy", "2 busy", "busy 2-6", "+2-6 busy", "2.0-6 busy", "a-b busy", "2-6 busy, -",
                     "-, 2-6 busy", "2-6 busy;8-10 busy", "(2, 6, 'busy')", "()", "2-6 busy private"):
            self.refuse(text)

    def test_numbers(self):
        for text in ("02-6 busy", "2-06 busy", "00-1 busy", "0-100 busy", "100-101 busy", "2-\u0666 busy",
                     "\u00b2-6 busy"):
            self.refuse(text)
        self.assertEqual(read_view("0-99 busy"), ((0, 99, "busy"),))
        self.assertEqual(read_view("9-10 private"), ((9, 10, "private"),))

    def test_texts_of_no_views(self):
        for text in ("6-2 busy", "2-2 busy", "8-10 busy, 2-6 busy", "2-6 busy, 2-6 busy", "2-6 private, 2-6 busy",
                     "2-6 busy, 2-5 busy"):
            self.refuse(text)

    def test_any_value(self):
        for value in things():
            if value != "-":
                self.refuse(value)
        self.refuse(("2-6 busy",))
        self.refuse(b"2-6 busy")


if __name__ == "__main__":
    unittest.main()
