"""What points 16 to 20 tell of a frame and looks goes together with what points 21 to 24 tell of it."""

import random
import unittest

from brute import some_day, some_known, some_rule
from dimdays.changes import change, least_change
from dimdays.choosing import answers, best_looks, left, veils
from dimdays.comparing import finer, parting, views
from dimdays.desk import Desk
from dimdays.frames import Frame
from dimdays.knowing import a_day, fits, is_fit, many_days
from dimdays.live import Live
from dimdays.meetings import begins, can_be, ends, fewest, greatest, shared
from dimdays.net import layers
from dimdays.papers import paper, paper_holds
from dimdays.rules import Rule, alike
from dimdays.showing import show, view_text
from dimdays.sure import best_slots, free_days, slot, sure

ALL_HIDDEN = Rule(hours=(47, 48))


def questions(seed, many, length, private, till=None):
    """Return some frames, each with looks at a day and with the day."""
    rng = random.Random(seed)
    told = []
    for _ in range(many):
        shortest = rng.randint(1, 3)
        day = some_day(rng, length, shortest, private)
        known = [pair for pair in some_known(rng, day, 2) if (pair[0] in day.taken) == pair[1]]
        frame = Frame(length, shortest, rng.choice([None, None, len(day), 16]), private, known[:rng.randint(0, 2)])
        rules = [some_rule(rng, 5, till or length + 2) for _ in range(rng.randint(0, 2))]
        told.append((frame, [(rule, show(rule, day)) for rule in rules], day, some_rule(rng, 4, length + 2)))
    return told


ASKED = questions(1, 8, 7, True) + questions(2, 8, 9, False)


class Together(unittest.TestCase):
    def test_one_more_look(self):
        for frame, looks, _, rule in ASKED:
            told = [many_days(frame, looks + [(rule, view)]) for view, _ in views(frame, rule)]
            self.assertEqual(left(frame, looks, rule), max(told))
            self.assertEqual(sum(told), many_days(frame, looks))
            self.assertEqual(left(frame, looks, ALL_HIDDEN), many_days(frame, looks))
            if not looks:
                self.assertEqual(left(frame, looks, rule), max(many for _, many in views(frame, rule)))

    def test_best_looks(self):
        for frame, looks, _, rule in ASKED:
            rules = [rule, ALL_HIDDEN, Rule(private="apart"), Rule(2)] + [one for one, _ in looks]
            told = [left(frame, looks, one) for one in rules]
            self.assertEqual(best_looks(frame, looks, rules),
                             tuple(at for at, many in enumerate(told) if many == min(told)))
            for at, (one, _) in enumerate(looks):
                # A look that is known already leaves all days that are left.
                self.assertEqual(told[4 + at], many_days(frame, looks))

    def test_views_that_were_shown(self):
        for frame, looks, day, rule in ASKED:
            told = dict(views(frame, rule))
            self.assertEqual(sum(told.values()), many_days(frame, ()))
            self.assertEqual(told[show(rule, day)], many_days(frame, [(rule, show(rule, day))]))
            some = a_day(frame, looks)
            for one, view in looks:
                self.assertEqual(show(one, some), view)
                self.assertIn(view, dict(views(frame, one)))

    def test_finer_rules(self):
        for frame, _, day, rule in ASKED:
            for other in (rule.but(step=2 * rule.step), rule.but(least=rule.least + 2), rule.but(private="busy"),
                          Rule()):
                is_finer = finer(frame, rule, other)
                self.assertIs(is_finer, parting(frame, rule, other) is None)
                for view, many in views(frame, rule)[:6]:
                    least = left(frame, [(rule, view)], other)
                    self.assertIs(least <= many, True)
                    if is_finer:
                        self.assertEqual(least, many)
                if alike(rule, other) and rule.hours == other.hours:
                    self.assertEqual(views(frame, rule), views(frame, other))
                if not is_finer:
                    one, another = parting(frame, rule, other)
                    looks = [(rule, show(rule, one))]
                    self.assertIs(is_fit(frame, looks, one) and is_fit(frame, looks, another), True)
                    self.assertLess(left(frame, looks, other), many_days(frame, looks))

    def test_answers_and_veils(self):
        for frame, _, day, rule in ASKED[::3]:
            for begin, end in ((0, 1), (2, 5), (0, frame.length)):
                words = {slot(frame, [(rule, view)], begin, end) for view, _ in views(frame, rule)}
                self.assertEqual(answers(frame, rule, begin, end), tuple(sorted(words)))
                for word in ("always", "never", "sometimes"):
                    told = veils(frame, rule, begin, end, word)
                    self.assertNotIn(str(rule), told)
                    for text in told[:2]:
                        other = Rule.read(text)
                        self.assertNotEqual(slot(frame, [(other, show(other, day))], begin, end), word)

    def test_changes(self):
        for frame, looks, day, rule in ASKED:
            self.assertEqual(least_change(frame, looks, looks), 0)
            self.assertEqual(least_change(frame, looks, [(Rule(), show(Rule(), day))]), 0)
            # With no meeting at one of the times, just those of the other one came or went.
            nothing = [(Rule(private="apart"), ())]
            if fits(frame, nothing):
                self.assertEqual(least_change(frame, looks, nothing), fewest(frame, looks))
                self.assertEqual(least_change(frame, nothing, looks), fewest(frame, looks))
                self.assertEqual(change(frame, nothing, looks)[0].meetings, ())
            later = [(rule, show(rule, day))]
            self.assertIs(least_change(frame, looks, later) == 0, fits(frame, looks + later))
            one, other = change(frame, looks, later)
            self.assertEqual([is_fit(frame, looks, one), is_fit(frame, later, other)], [True, True])
            self.assertEqual(least_change(frame, looks, later), len(set(one.meetings) ^ set(other.meetings)))

    def test_live_things_and_desks(self):
        for frame, looks, day, rule in ASKED:
            live, desk = Live(frame), Desk()
            self.assertEqual(desk.say(f"frame {frame}"), str(many_days(frame, ())))
            for at, (one, view) in enumerate(looks):
                many = many_days(frame, looks[:at + 1])
                self.assertEqual(live.look(one, view), many)
                self.assertEqual(desk.say(f"look {one} : {view_text(view)}"), str(many))
            self.assertEqual(Live(frame).several(looks), many_days(frame, looks))
            free, taken = sure(live.frame, live.looks)
            self.assertEqual(desk.say("free"), " ".join(map(str, free)) or "-")
            self.assertEqual(desk.say("taken"), " ".join(map(str, taken)) or "-")
            self.assertEqual(desk.say("meetings"), f"{fewest(frame, looks)} {greatest(frame, looks)}")
            for tick in range(frame.length):
                many = live.within(lambda one: one.know(tick, False))
                self.assertEqual(many, free_days(frame, looks, tick, tick + 1))
                self.assertEqual(desk.say(f"slot {tick} {tick + 1}"), slot(frame, looks, tick, tick + 1))
            told = [live.within(lambda one: one.look(rule, view)) for view, _ in views(frame, rule)]
            self.assertEqual(left(frame, looks, rule), max(told))

    def test_what_is_sure(self):
        for frame, looks, day, _ in ASKED:
            free, taken = sure(frame, looks)
            for tick in range(frame.length):
                for is_taken, ticks in ((True, taken), (False, free)):
                    told = paper(frame, looks, tick, is_taken)
                    self.assertIs(told is not None, tick in ticks)
                    self.assertIs(paper_holds(frame, looks, tick, is_taken, told), tick in ticks)
                    self.assertIs(fits(frame.knowing(tick, not is_taken), looks), tick not in ticks)
            meetings = can_be(frame, looks)
            in_some = {tick for begin, end, _ in meetings for tick in range(begin, end)}
            self.assertEqual(set(range(frame.length)) - in_some, set(free))
            self.assertEqual({begin for begin, _, _ in meetings}, set(begins(frame, looks)[1]))
            self.assertEqual({end for _, end, _ in meetings}, set(ends(frame, looks)[1]))
            self.assertIs(greatest(frame, looks) == 0, meetings == ())
            self.assertEqual(shared([(frame, looks), (frame, ())]), tuple(
                (begin, end) for begin, end, is_private in meetings if not is_private))
            self.assertEqual(len(layers(frame, looks)[0]), 1)
            self.assertTrue(set(best_slots(frame, looks, 1)) >= set(free) if free else True)

    def test_a_day_that_was_shown_in_full(self):
        for frame, looks, day, _ in ASKED:
            known = frame
            for tick in range(frame.length):
                known = known.knowing(tick, tick in day.taken)
            told = sure(known, looks)
            self.assertEqual(told[1], day.taken)
            self.assertLessEqual(many_days(known, looks), many_days(frame, looks))
            self.assertTrue(fewest(known, looks) <= len(day) <= greatest(known, looks))


if __name__ == "__main__":
    unittest.main()
