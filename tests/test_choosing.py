"""Point 21: rules chosen by what a look by them would tell; and the limits of point 3."""

import random
import unittest

from brute import all_days, plain_fits, plain_lets, plain_show, some_day, some_known, some_question, some_rule
from dimdays.choosing import answers, best_looks, left, veils
from dimdays.comparing import views
from dimdays.errors import InvalidLooks, InvalidSlot
from dimdays.frames import Frame
from dimdays.knowing import many_days
from dimdays.rules import Rule
from dimdays.showing import show
from dimdays.sure import slot
from samples import things

RULE, FRAME = Rule(step=2), Frame(8, shortest=2)
LOOKS = [(RULE, ((2, 6, "busy"),))]
NOTHING = [(RULE, ((1, 6, "busy"),))]
WORDS = ("always", "never", "sometimes")


def plain_left(rule, days):
    counts = {}
    for day in days:
        view = plain_show(rule, day)
        counts[view] = counts.get(view, 0) + 1
    return max(counts.values(), default=0)


def plain_answers(rule, begin, end, days):
    told = {}
    for day in days:
        is_free = not any(begin <= tick < end for tick in day.taken)
        told.setdefault(plain_show(rule, day), set()).add(is_free)
    words = {"sometimes" if len(found) == 2 else "always" if True in found else "never" for found in told.values()}
    return tuple(sorted(words))


def plain_others(rule):
    others = [rule.but(step=step) for step in (1, 2, 3, 4)]
    others += [rule.but(gap=gap) for gap in (0, 1, 2, 3, 4)]
    others += [rule.but(least=least) for least in (0, 1, 2, 3, 4)]
    others += [rule.but(private=word) for word in ("busy", "none", "apart", "one")]
    return [other for other in others if str(other) != str(rule)]


def plain_veils(rule, begin, end, word, days):
    return tuple(sorted({str(other) for other in plain_others(rule)
                         if word not in plain_answers(other, begin, end, days)}))


class Left(unittest.TestCase):
    def test_examples(self):
        self.assertEqual(left(FRAME, LOOKS, Rule(step=3)), 3)
        self.assertEqual(best_looks(FRAME, LOOKS, [Rule(step=4), Rule(step=3)]), (1,))
        self.assertEqual(answers(Frame(2), Rule(step=2), 0, 1), ("always", "sometimes"))

    def test_left(self):
        self.assertEqual(left(FRAME, LOOKS, RULE), 5)
        self.assertEqual(left(FRAME, LOOKS, Rule()), 2)
        self.assertEqual(left(Frame(3), (), Rule()), 4)
        self.assertEqual(left(Frame(3), [], Rule(least=4)), 13)
        self.assertEqual(left(Frame(3, most=0), (), Rule()), 1)
        self.assertEqual(left(Frame(2, private=True), (), Rule()), 6)
        self.assertEqual(left(Frame(2, private=True), (), Rule(private="apart")), 2)
        self.assertEqual(left(Frame(2, private=True), (), Rule(private="none")), 5)

    def test_a_look_that_shows_nothing(self):
        self.assertEqual(left(FRAME, LOOKS, Rule(hours=(20, 30))), 5)
        self.assertEqual(left(FRAME, [(Rule(hours=(20, 30)), ())], Rule()), left(FRAME, (), Rule()))
        self.assertEqual(left(FRAME, [(Rule(), ())], Rule()), 1)

    def test_no_day_fits(self):
        for frame, looks in ((FRAME, NOTHING), (Frame(8, most=0), LOOKS),
                             (Frame(8, known=[(1, True), (1, False)]), ())):
            self.assertEqual(left(frame, looks, Rule()), 0)
            self.assertEqual(best_looks(frame, looks, [Rule(3), Rule(2), Rule()]), (0, 1, 2))
            self.assertEqual(best_looks(frame, looks, []), ())

    def test_best_looks(self):
        rules = [Rule(3), RULE, Rule(), Rule(step=4), Rule()]
        self.assertEqual(best_looks(FRAME, LOOKS, rules), (2, 4))
        self.assertEqual(best_looks(FRAME, LOOKS, tuple(rules[:2])), (0,))
        self.assertEqual(best_looks(FRAME, LOOKS, [RULE]), (0,))
        self.assertEqual(best_looks(FRAME, LOOKS, [RULE, Rule(least=9), RULE]), (0, 1, 2))
        self.assertEqual(best_looks(FRAME, LOOKS, ()), ())

    def test_wrong_looks(self):
        for looks, at in ((None, 0), ([LOOKS[0], 3], 1), (LOOKS[0], 0), ([LOOKS[0], LOOKS[0], (RULE, [])], 2)):
            for call in (lambda: left(FRAME, looks, RULE), lambda: best_looks(FRAME, looks, [RULE]),
                         lambda: best_looks(FRAME, looks, [])):
                with self.assertRaises(InvalidLooks) as caught:
                    call()
                self.assertEqual(caught.exception.at, at)

    def test_against_trying_all_days(self):
        days = {(length, private): all_days(length, private) for length in range(1, 7) for private in (True, False)}
        rng = random.Random(210)
        several = 0
        for seed in range(240):
            length, private = 1 + seed % 6, seed // 6 % 2 == 0
            frame, looks = some_question(4000 + seed, length, private, 2)
            fitting = plain_fits(frame, looks, days[length, private])
            rules = [some_rule(rng, 4, 8) for _ in range(4)]
            told = [plain_left(rule, fitting) for rule in rules]
            asked = (str(frame), looks, [str(rule) for rule in rules])
            self.assertEqual([left(frame, looks, rule) for rule in rules], told, asked)
            best = tuple(at for at in range(4) if told[at] == min(told))
            several += len(best) < 4
            self.assertEqual(best_looks(frame, looks, rules), best, asked)
        self.assertGreater(several, 60)


class Answers(unittest.TestCase):
    def test_answers(self):
        frame = Frame(4)
        self.assertEqual(answers(frame, Rule(), 1, 2), ("always", "never"))
        self.assertEqual(answers(frame, Rule(least=5), 1, 2), ("sometimes",))
        self.assertEqual(answers(frame, Rule(2), 1, 2), ("always", "sometimes"))
        self.assertEqual(answers(frame, Rule(2), 0, 2), ("always", "never"))
        self.assertEqual(answers(frame, Rule(gap=1), 1, 2), ("always", "never", "sometimes"))
        self.assertEqual(answers(Frame(4, most=0), Rule(), 0, 4), ("always",))
        self.assertEqual(answers(Frame(4, known=[(1, True)]), Rule(), 0, 4), ("never",))
        self.assertEqual(answers(Frame(2, private=True), Rule(private="none"), 0, 2), ("never", "sometimes"))

    def test_no_days(self):
        frame = Frame(4, known=[(1, True), (1, False)])
        self.assertEqual(answers(frame, Rule(), 1, 2), ())
        every = [str(one) for one in plain_others(Rule())]
        self.assertEqual(veils(frame, Rule(), 1, 2, "always"), tuple(sorted(every)))

    def test_veils(self):
        told = veils(Frame(4), Rule(), 1, 2, "never")
        self.assertEqual(told, tuple(sorted(told)))
        self.assertIn(str(Rule(2)), told)
        self.assertNotIn(str(Rule()), told)
        self.assertNotIn(str(Rule(least=4)), told)
        self.assertIn(str(Rule(least=4)), veils(Frame(4, most=2, known=[(0, False)]), Rule(), 1, 2, "never"))

    def test_the_rule_itself_is_not_told(self):
        self.assertEqual(veils(Frame(2), Rule(2), 0, 1, "never"), tuple([str(one) for one in (
            Rule(2, private="apart"), Rule(2, private="none"), Rule(2, private="one"),
            Rule(2, 0, 1), Rule(2, 0, 2), Rule(2, 0, 3), Rule(2, 0, 4),
            Rule(2, 1), Rule(2, 2), Rule(2, 3), Rule(2, 4), Rule(3), Rule(4))]))
        frame, rule = Frame(4, 2, None, True, ((3, False), (2, False))), Rule(4, 6, 2, "one")
        self.assertNotIn("never", answers(frame, rule, 2, 4))
        self.assertNotIn(str(rule), veils(frame, rule, 2, 4, "never"))
        for rule in (Rule(), Rule(2), Rule(3, 4, 1, "one"), Rule(5, 6, 7, "apart"), Rule(hours=(1, 3))):
            for word in WORDS:
                self.assertNotIn(str(rule), veils(Frame(4), rule, 1, 2, word))

    def test_all_that_differ_in_one_argument(self):
        # Nothing but "always" can be told of a day without meetings, so that no other word keeps a rule out.
        frame = Frame(4, most=0)
        for rule, many in ((Rule(), 14), (Rule(8), 15), (Rule(8, 5), 16), (Rule(8, 5, 16), 17)):
            told = veils(frame, rule, 1, 2, "never")
            self.assertEqual(told, tuple(sorted([str(one) for one in plain_others(rule)])))
            self.assertEqual(len(told), many)
            for text in told:
                other = Rule.read(text)
                pairs = ((rule.step, other.step), (rule.gap, other.gap), (rule.least, other.least),
                         (rule.private, other.private), (rule.hours, other.hours))
                self.assertEqual(sum(one != another for one, another in pairs), 1)

    def test_arguments_that_are_not_tried(self):
        frame = Frame(4, most=0)
        told = veils(frame, Rule(5, 6, 7, "one", (1, 3)), 1, 2, "never")
        wanted = ["step 5 gap 6 least 7 private " + word for word in ("busy", "none", "apart")]
        wanted += [f"step {step} gap 6 least 7 private one" for step in (1, 2, 3, 4)]
        wanted += [f"step 5 gap {gap} least 7 private one" for gap in (0, 1, 2, 3, 4)]
        wanted += [f"step 5 gap 6 least {least} private one" for least in (0, 1, 2, 3, 4)]
        self.assertEqual(told, tuple(sorted(text + " hours 1-3" for text in wanted)))
        self.assertEqual(veils(frame, Rule(5, 6, 7, "one", (1, 3)), 1, 2, "always"), ())

    def test_slots(self):
        frame = Frame(4)
        for begin, end in ((0, 5), (1, 1), (2, 1), (-1, 2), (False, 2), (0, True), (None, 3), ("0", "1"), (4, 5)):
            with self.assertRaises(InvalidSlot):
                answers(frame, Rule(), begin, end)
            with self.assertRaises(InvalidSlot):
                veils(frame, Rule(), begin, end, "never")
        for thing in things():
            for begin, end in ((thing, thing), (3, thing), (thing, 0)):
                with self.assertRaises(InvalidSlot):
                    answers(frame, Rule(), begin, end)
                with self.assertRaises(InvalidSlot):
                    veils(frame, Rule(), begin, end, "always")
        self.assertEqual(answers(frame, Rule(), 0, 4), ("always", "never"))
        self.assertEqual(answers(frame, Rule(), 3, 4), ("always", "never"))

    def test_against_trying_all_days(self):
        rng = random.Random(21)
        days = {(length, private): all_days(length, private) for length in range(1, 6) for private in (True, False)}
        counts = {}
        for seed in range(160):
            length, private = 1 + seed % 5, seed // 5 % 2 == 0
            shortest = rng.randint(1, 3)
            day = some_day(rng, length, shortest, private)
            most = rng.choice([None, None, len(day), 2, 0])
            frame = Frame(length, shortest, most, private, some_known(rng, day, rng.choice([0, 0, 1, 2])))
            let = [day for day in days[length, private] if plain_lets(frame, day)]
            rule = some_rule(rng, 6, 7)
            begin = rng.randrange(length)
            end = rng.randint(begin + 1, length)
            asked = (str(frame), str(rule), begin, end)
            told = plain_answers(rule, begin, end, let)
            counts[told] = counts.get(told, 0) + 1
            self.assertEqual(answers(frame, rule, begin, end), told, asked)
            if seed % 4 == 0:
                for word in WORDS:
                    self.assertEqual(veils(frame, rule, begin, end, word), plain_veils(rule, begin, end, word, let))
        self.assertGreater(len(counts), 6)

    def test_against_slot(self):
        rng = random.Random(22)
        for private in (True, False):
            for _ in range(4):
                frame, rule = Frame(6, rng.randint(1, 2), None, private), some_rule(rng, 4, 8)
                begin = rng.randrange(5)
                end = rng.randint(begin + 1, 6)
                words = {slot(frame, [(rule, view)], begin, end) for view, _ in views(frame, rule)}
                self.assertEqual(answers(frame, rule, begin, end), tuple(sorted(words)))


class Limits(unittest.TestCase):
    RULES = [Rule(), Rule(private="apart"), Rule(1, 2, 3, "one", (2, 7)), Rule(8, 16, 16), Rule(2, 1, 5, "none")]

    def choose(self, frame, day):
        looks = [(rule, show(rule, day)) for rule in (Rule(3, 1), Rule(2, 2, 3, "apart", (2, 20)))]
        for asked in ((), looks[:1], looks):
            counts = [left(frame, asked, rule) for rule in self.RULES]
            self.assertTrue(all(0 < many <= many_days(frame, asked) for many in counts))
            best = tuple(at for at, many in enumerate(counts) if many == min(counts))
            self.assertEqual(best_looks(frame, asked, self.RULES), best)
            self.assertEqual(left(frame, asked, Rule(hours=(47, 48))), many_days(frame, asked))
        for rule in self.RULES[:3]:
            for word in WORDS:
                found = veils(frame, rule, 2, 4, word)
                self.assertNotIn(str(rule), found)
                for text in found[:3]:
                    self.assertNotIn(word, answers(frame, Rule.read(text), 2, 4))

    def test_limits(self):
        rng = random.Random(23)
        self.choose(Frame(10), some_day(rng, 10, 1, False))
        self.choose(Frame(8, private=True), some_day(rng, 8, 1, True))
        self.choose(Frame(10, 2, 16, False), some_day(rng, 10, 2, False))

    def test_somewhat_beyond(self):
        rng = random.Random(24)
        self.choose(Frame(11), some_day(rng, 11, 1, False))
        self.choose(Frame(9, 2, None, True), some_day(rng, 9, 2, True))
        self.assertEqual(left(Frame(24), (), Rule(24)), many_days(Frame(24), ()) - 1)


if __name__ == "__main__":
    unittest.main()
