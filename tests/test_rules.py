"""Points 7 and 10: rules, their normal forms, and which are alike."""

import unittest

from dimdays.days import Day
from dimdays.errors import InvalidRule, InvalidText
from dimdays.rules import Rule, alike
from samples import things, without_kinds

NAMES = ("step", "gap", "least", "private", "hours")


def parts(rule):
    return tuple(getattr(rule, name) for name in NAMES)


class RuleCase(unittest.TestCase):
    def refuse(self, word, *arguments, **named):
        with self.assertRaises(InvalidRule) as caught:
            Rule(*arguments, **named)
        self.assertEqual(caught.exception.word, word, (arguments, named))


class Making(RuleCase):
    def test_defaults(self):
        self.assertEqual(parts(Rule()), (1, 0, 0, "busy", None))

    def test_attributes(self):
        self.assertEqual(parts(Rule(2, 1, 3, "apart", (4, 20))), (2, 1, 3, "apart", (4, 20)))
        self.assertEqual(parts(Rule(hours=(0, 1), least=5)), (1, 0, 5, "busy", (0, 1)))
        self.assertIs(type(Rule(hours=(0, 1)).hours), tuple)

    def test_each_private(self):
        for word in ("busy", "none", "apart", "one"):
            self.assertEqual(Rule(private=word).private, word)

    def test_limits_and_beyond(self):
        self.assertEqual(parts(Rule(8, 16, 16, "one", (0, 48))), (8, 16, 16, "one", (0, 48)))
        self.assertEqual(parts(Rule(60, 70, 80, "one", (90, 1000))), (60, 70, 80, "one", (90, 1000)))

    def test_wrong_step(self):
        for step in [0, -1, -(10 ** 30)] + without_kinds(int):
            self.refuse("step", step)
            self.refuse("step", step=step)

    def test_wrong_gap_and_least(self):
        for thing in [-1, -(10 ** 30)] + without_kinds(int):
            self.refuse("gap", 1, thing)
            self.refuse("gap", gap=thing)
            self.refuse("least", 1, 0, thing)
            self.refuse("least", least=thing)

    def test_wrong_private(self):
        for thing in things():
            if thing != "busy":
                self.refuse("private", private=thing)
        for word in ("Busy", "busy ", "", "apar", "private", "oneapart", ("busy",), ["one"]):
            self.refuse("private", 1, 0, 0, word)

    def test_wrong_hours(self):
        for thing in things():
            if thing is not None:
                self.refuse("hours", hours=thing)
        for hours in ([1, 2], (2, 2), (3, 2), (0, 0), (-1, 2), (1, 2, 3), (1,), (), (0, True), (False, 1),
                      (False, True),
                      ("1", "2"), (1, None), (None, 1), ((1, 2),), "1-2", False, 0):
            self.refuse("hours", 1, 0, 0, "busy", hours)

    def test_first_wrong_one(self):
        wrong = {"step": 0, "gap": True, "least": None, "private": 3, "hours": [1, 2]}
        for k, name in enumerate(NAMES):
            told = {other: wrong[other] for other in NAMES[k:]}
            self.refuse(name, **told)
            self.refuse(name, **dict(reversed(list(told.items()))))
        self.refuse("step", *wrong.values())


class Others(RuleCase):
    def setUp(self):
        self.rule = Rule(2, 1, 3, "apart", (4, 20))

    def test_none(self):
        self.assertEqual(self.rule.but(), self.rule)
        self.assertIs(type(self.rule.but()), Rule)

    def test_each(self):
        others = {"step": 5, "gap": 0, "least": 7, "private": "none", "hours": (0, 3)}
        for name, thing in others.items():
            changed = self.rule.but(**{name: thing})
            self.assertEqual(getattr(changed, name), thing)
            for other in NAMES:
                if other != name:
                    self.assertEqual(getattr(changed, other), getattr(self.rule, other))
        self.assertEqual(parts(self.rule.but(**others)), (5, 0, 7, "none", (0, 3)))

    def test_hours_away(self):
        self.assertIsNone(self.rule.but(hours=None).hours)

    def test_defaults_are_not_taken(self):
        self.assertEqual(parts(self.rule.but(hours=None, least=2)), (2, 1, 2, "apart", None))

    def refuse_but(self, word, **others):
        with self.assertRaises(InvalidRule) as caught:
            self.rule.but(**others)
        self.assertEqual(caught.exception.word, word, others)

    def test_wrong_ones(self):
        for thing in without_kinds(int):
            self.refuse_but("step", step=thing)
            self.refuse_but("gap", gap=thing)
            self.refuse_but("least", least=thing)
        for thing in without_kinds(str):
            self.refuse_but("private", private=thing)
        for thing in things():
            if thing is not None:
                self.refuse_but("hours", hours=thing)
        self.refuse_but("step", step=0)
        self.refuse_but("gap", gap=-1)

    def test_first_wrong_one(self):
        self.refuse_but("gap", hours=(2, 1), private="", least=-1, gap=False)
        self.refuse_but("least", private="", least=-1, step=1)
        self.refuse_but("private", hours=[], private=None)

    def test_nothing_changes(self):
        before = str(self.rule)
        self.rule.but(step=9, hours=None)
        self.refuse_but("step", step=None)
        self.assertEqual(str(self.rule), before)


class Texts(unittest.TestCase):
    def test_text(self):
        self.assertEqual(str(Rule(2, 1, 3, "apart")), "step 2 gap 1 least 3 private apart")
        self.assertEqual(str(Rule(2, 1, 3, "apart", (4, 20))), "step 2 gap 1 least 3 private apart hours 4-20")
        self.assertEqual(str(Rule()), "step 1 gap 0 least 0 private busy")
        self.assertEqual(str(Rule(8, 16, 10, "one", (0, 48))), "step 8 gap 16 least 10 private one hours 0-48")

    def test_read(self):
        rule = Rule.read("step 2 gap 1 least 3 private apart")
        self.assertEqual(parts(rule), (2, 1, 3, "apart", None))
        self.assertIs(type(rule), Rule)
        rule = Rule.read("step 12 gap 10 least 99 private one hours 0-48")
        self.assertEqual(parts(rule), (12, 10, 99, "one", (0, 48)))

    def test_read_what_is_told(self):
        for private in ("busy", "none", "apart", "one"):
            for hours in (None, (0, 1), (9, 48)):
                rule = Rule(8, 16, 0, private, hours)
                self.assertEqual(Rule.read(str(rule)), rule)

    def refuse_text(self, text):
        with self.assertRaises(InvalidText) as caught:
            Rule.read(text)
        self.assertEqual(caught.exception.at, 0, text)

    def test_no_string(self):
        for thing in without_kinds(str):
            self.refuse_text(thing)
        self.refuse_text(["step 2 gap 1 least 3 private apart"])
        self.refuse_text("step 2 gap 1 least 3 private apart".split())

    def test_wrong_forms(self):
        text = "step 2 gap 1 least 3 private apart"
        words = text.split(" ")
        for k in range(8):
            self.refuse_text(" ".join(words[:k]))
            self.refuse_text(" ".join(words[:k] + words[k + 1:]))
            self.refuse_text(" ".join(words[:k] + [words[k]] + words[k:]))
            self.refuse_text(" ".join(words[:k] + ["x"] + words[k + 1:]))
            self.refuse_text(" ".join(words[:k] + [""] + words[k:]))
            self.refuse_text(" ".join(words[:k] + [words[k].upper() + "!"] + words[k + 1:]))
        for wrong in (" " + text, text + " ", text + "\n", text + "\nhours 4-20", text.replace(" ", "  ", 1),
                      text.upper(),
                      text.replace(" gap", "\tgap"), text.replace(" ", ""), text + text, text + " " + text,
                      "gap 1 step 2 least 3 private apart", "step 2 gap 1 private apart least 3"):
            self.refuse_text(wrong)

    def test_wrong_hours(self):
        text = "step 2 gap 1 least 3 private apart"
        for tail in (" hours", " hours ", " hours 4", " hours 4-", " hours -20", " hours 4 20", " hours 4 - 20",
                     " 4-20",
                     " hours 4--20", " hours 4-20 ", "  hours 4-20", " hours  4-20", " hours 4-20-30", " hours -",
                     " hours none", " hours 4-20 hours 4-20", " hour 4-20", "hours 4-20", " hours 4-20\n",
                     " hours 4-20 x",
                     " hours 04-20", " hours 4-020", " hours 4-100", " hours +4-20", " hours 4,20"):
            self.refuse_text(text + tail)

    def test_wrong_numbers(self):
        for number in ("02", "00", "100", "-1", "+2", "", "a", "2.0", "1_0", "\u0662", "\u00b2", "2-3", "none"):
            self.refuse_text(f"step {number} gap 1 least 3 private busy")
            self.refuse_text(f"step 2 gap {number} least 3 private busy")
            self.refuse_text(f"step 2 gap 1 least {number} private busy")

    def test_another_private(self):
        for word in ("private", "Busy", "", "all", "busy,", "apart-", "0", "on", "ones"):
            self.refuse_text(f"step 2 gap 1 least 3 private {word}")
            self.refuse_text(f"step 0 gap 1 least 3 private {word} hours 5-4")

    def refuse_rule(self, text, word):
        with self.assertRaises(InvalidRule) as caught:
            Rule.read(text)
        self.assertEqual(caught.exception.word, word, text)

    def test_text_of_no_rule(self):
        self.refuse_rule("step 0 gap 1 least 3 private busy", "step")
        self.refuse_rule("step 0 gap 1 least 3 private busy hours 4-4", "step")
        self.refuse_rule("step 2 gap 1 least 3 private busy hours 4-4", "hours")
        self.refuse_rule("step 2 gap 1 least 3 private busy hours 0-0", "hours")
        self.refuse_rule("step 2 gap 1 least 3 private busy hours 20-4", "hours")


class Equality(unittest.TestCase):
    def test_equal(self):
        self.assertEqual(Rule(), Rule(1, 0, 0, "busy", None))
        self.assertFalse(Rule(2, hours=(1, 2)) != Rule.read("step 2 gap 0 least 0 private busy hours 1-2"))

    def test_unequal(self):
        rules = [Rule(), Rule(2), Rule(1, 1), Rule(1, 0, 1), Rule(private="none"), Rule(private="one"),
                 Rule(hours=(0, 1)),
                 Rule(hours=(0, 2)), Rule(hours=(1, 2)), Rule(2, 1), Rule(1, 2)]
        for k, rule in enumerate(rules):
            for other in rules[k + 1:]:
                self.assertTrue(rule != other)
                self.assertFalse(rule == other)

    def test_equal_is_not_alike(self):
        self.assertNotEqual(Rule(2, 1), Rule(2))
        self.assertNotEqual(Rule(2, 1).normal, Rule(2, 1))

    def test_another_class(self):
        rule = Rule(2, 1)
        for thing in (str(rule), 2, (2, 1, 0, "busy", None), [2, 1], None, Day(2), True):
            self.assertIs(rule == thing, False)
            self.assertIs(thing == rule, False)
            self.assertIs(rule != thing, True)


class Normal(unittest.TestCase):
    def test_example(self):
        self.assertEqual(str(Rule(4, 7, 5, "one").normal), "step 4 gap 4 least 8 private one")
        self.assertIs(type(Rule().normal), Rule)

    def test_gap_around_multiples(self):
        wanted = {0: 0, 1: 0, 2: 0, 3: 3, 4: 3, 5: 3, 6: 6, 7: 6, 16: 15}
        for gap, normal in wanted.items():
            self.assertEqual(Rule(3, gap).normal.gap, normal, gap)

    def test_least_around_multiples(self):
        wanted = {0: 0, 1: 0, 2: 0, 3: 0, 4: 6, 5: 6, 6: 6, 7: 9, 9: 9, 10: 12, 16: 18}
        for least, normal in wanted.items():
            self.assertEqual(Rule(3, 0, least).normal.least, normal, least)

    def test_steps_of_one_tick(self):
        self.assertEqual(Rule(1, 5, 1).normal, Rule(1, 5, 0))
        self.assertEqual(Rule(1, 5, 2).normal, Rule(1, 5, 2))

    def test_step_above_all(self):
        self.assertEqual(Rule(8, 7, 8).normal, Rule(8))
        self.assertEqual(Rule(8, 8, 9).normal, Rule(8, 8, 16))

    def test_all_else_stays(self):
        rule = Rule(4, 7, 5, "apart", (3, 21))
        self.assertEqual(parts(rule.normal), (4, 4, 8, "apart", (3, 21)))
        self.assertEqual(parts(rule), (4, 7, 5, "apart", (3, 21)))

    def test_normal_of_normal(self):
        for step in range(1, 9):
            for size in range(17):
                normal = Rule(step, size, size, "none", (1, 2)).normal
                self.assertEqual(normal.normal, normal)


class Alike(unittest.TestCase):
    def test_examples(self):
        self.assertIs(alike(Rule(2, 1), Rule(2, 0, 2)), True)
        self.assertIs(alike(Rule(2, 2), Rule(2, 1)), False)

    def test_hours_aside(self):
        self.assertIs(alike(Rule(2, hours=(0, 4)), Rule(2)), True)
        self.assertIs(alike(Rule(2, hours=(0, 4)), Rule(2, 1, hours=(5, 6))), True)
        self.assertIs(alike(Rule(2, hours=(0, 4)), Rule(3, hours=(0, 4))), False)

    def test_each_part(self):
        rule = Rule(3, 4, 7, "apart")
        self.assertIs(alike(rule, rule.but(gap=5)), True)
        self.assertIs(alike(rule, rule.but(gap=6)), False)
        self.assertIs(alike(rule, rule.but(gap=2)), False)
        self.assertIs(alike(rule, rule.but(least=9)), True)
        self.assertIs(alike(rule, rule.but(least=10)), False)
        self.assertIs(alike(rule, rule.but(least=6)), False)
        self.assertIs(alike(rule, rule.but(step=1)), False)
        for word in ("busy", "none", "one"):
            self.assertIs(alike(rule, rule.but(private=word)), False)

    def test_both_ways(self):
        rules = [Rule(step, gap, least) for step in (1, 2, 3) for gap in range(4) for least in range(4)]
        for p in rules:
            for q in rules:
                same = str(p.normal) == str(q.normal)
                self.assertIs(alike(p, q), same)
                self.assertIs(alike(q, p), same)


if __name__ == "__main__":
    unittest.main()
