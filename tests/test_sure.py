"""Point 17: what is sure, and how often slots are free; and the limits of point 3."""

import random
import unittest

from brute import all_days, plain_fits, some_day, some_known, some_question, some_rule
from dimdays.days import Day
from dimdays.errors import InvalidLooks, InvalidSlot
from dimdays.frames import Frame
from dimdays.knowing import is_fit, many_days
from dimdays.rules import Rule
from dimdays.showing import show
from dimdays.sure import best_slots, free_days, slot, sure
from samples import things

RULE, FRAME = Rule(step=2), Frame(8, shortest=2)
LOOKS = [(RULE, ((2, 6, "busy"),))]
NOTHING = [(RULE, ((1, 6, "busy"),))]


def is_free(day, begin, end):
    return not any(begin <= tick < end for tick in day.taken)


def plain_sure(frame, days):
    if not days:
        return None
    free = tuple(tick for tick in range(frame.length) if all(is_free(day, tick, tick + 1) for day in days))
    taken = tuple(tick for tick in range(frame.length) if not any(is_free(day, tick, tick + 1) for day in days))
    return free, taken


def plain_slot(days, begin, end):
    if not days:
        return None
    told = [is_free(day, begin, end) for day in days]
    return "always" if all(told) else "sometimes" if any(told) else "never"


def plain_free(days, begin, end):
    return len([day for day in days if is_free(day, begin, end)])


def plain_best(frame, days, size):
    begins = range(frame.length - size + 1)
    most = max(plain_free(days, begin, begin + size) for begin in begins)
    return tuple(begin for begin in begins if plain_free(days, begin, begin + size) == most)


def slots(length):
    return [(begin, end) for begin in range(length) for end in range(begin + 1, length + 1)]


class Ordinary(unittest.TestCase):
    def test_examples(self):
        self.assertEqual(sure(FRAME, LOOKS), ((0, 1, 6, 7), (3, 4)))
        self.assertEqual(slot(FRAME, LOOKS, 2, 3), "sometimes")
        self.assertEqual((free_days(FRAME, LOOKS, 2, 3), free_days(FRAME, LOOKS, 4, 6), best_slots(FRAME, LOOKS, 3)),
                         (2, 0, (0, 5)))

    def test_words_of_slots(self):
        self.assertEqual(slot(FRAME, LOOKS, 0, 2), "always")
        self.assertEqual(slot(FRAME, LOOKS, 0, 3), "sometimes")
        self.assertEqual(slot(FRAME, LOOKS, 3, 4), "never")
        self.assertEqual(slot(FRAME, LOOKS, 2, 4), "never")

    def test_slots_that_are_free_though_no_tick_of_them_is_sure(self):
        frame, looks = Frame(4, most=1), [(Rule(step=4), ((0, 4, "busy"),))]
        self.assertEqual(sure(frame, looks), ((), ()))
        self.assertEqual(slot(frame, looks, 0, 2), "sometimes")
        self.assertEqual(slot(frame, looks, 0, 4), "never")
        self.assertEqual(free_days(frame, looks, 0, 2), 3)
        self.assertEqual(free_days(frame, looks, 0, 4), 0)

    def test_no_looks(self):
        self.assertEqual(sure(Frame(3), ()), ((), ()))
        self.assertEqual(sure(Frame(3, known=[(0, True), (2, False)]), []), ((2,), (0,)))
        self.assertEqual(free_days(Frame(2), (), 0, 2), 1)
        self.assertEqual(free_days(Frame(2), (), 0, 1), 2)
        self.assertEqual(slot(Frame(2), (), 0, 1), "sometimes")
        self.assertEqual(best_slots(Frame(2), (), 1), (0, 1))
        self.assertEqual(sure(Frame(3, 4), ()), ((0, 1, 2), ()))

    def test_no_meetings(self):
        frame = Frame(5, most=0)
        self.assertEqual(sure(frame, ()), ((0, 1, 2, 3, 4), ()))
        self.assertEqual(slot(frame, (), 0, 5), "always")
        self.assertEqual(free_days(frame, (), 1, 2), 1)
        self.assertEqual(best_slots(frame, (), 2), (0, 1, 2, 3))

    def test_private_meetings_take_ticks(self):
        frame, looks = Frame(4, private=True), [(Rule(private="apart"), ((1, 3, "private"),))]
        self.assertEqual(sure(frame, looks), ((0, 3), (1, 2)))
        self.assertEqual(slot(frame, looks, 1, 2), "never")
        looks = [(Rule(private="none"), ((0, 1, "busy"),))]
        self.assertEqual(sure(frame, looks), ((), (0,)))
        self.assertEqual(sure(Frame(4), looks), ((1, 2, 3), (0,)))


class NoDayFits(unittest.TestCase):
    def test_none(self):
        for frame, looks in ((FRAME, NOTHING), (Frame(8, most=0), LOOKS),
                             (Frame(8, known=[(1, True), (1, False)]), ()), (Frame(8, 3, known=[(0, False)]),
                                                                             [(Rule(), ((0, 3, "busy"),))])):
            self.assertIsNone(sure(frame, looks))
            for begin, end in slots(8):
                self.assertIsNone(slot(frame, looks, begin, end))
                self.assertEqual(free_days(frame, looks, begin, end), 0)
            for size in range(1, 9):
                self.assertEqual(best_slots(frame, looks, size), tuple(range(8 - size + 1)))


class Slots(unittest.TestCase):
    def refuse(self, begin, end, frame=FRAME, looks=LOOKS):
        for call in (slot, free_days):
            with self.assertRaises(InvalidSlot):
                call(frame, looks, begin, end)

    def test_ends_of_the_day(self):
        self.assertEqual(slot(FRAME, LOOKS, 0, 8), "never")
        self.assertEqual(slot(FRAME, LOOKS, 7, 8), "always")
        self.assertEqual(slot(FRAME, LOOKS, 0, 1), "always")
        self.assertEqual(free_days(FRAME, LOOKS, 7, 8), 5)
        self.assertEqual(slot(Frame(1), (), 0, 1), "sometimes")
        self.refuse(7, 9)
        self.refuse(8, 9)
        self.refuse(0, 9)
        self.refuse(0, 2, Frame(1), ())

    def test_any_values(self):
        numbers = (0, 1, 2)
        for thing in things():
            if isinstance(thing, bool) or thing not in numbers:
                self.refuse(0, thing)
                self.refuse(thing, 4)
            self.refuse(thing, thing)
        for begin, end in ((1, 1), (3, 2), (8, 8), (-1, 3), (0, -1), (0, 0), (False, 2), (0, True), (None, None),
                           ("0", "1"), ((0, 1), 2), (0, [1])):
            self.refuse(begin, end)
        self.refuse(Day(8), FRAME)

    def test_also_where_no_day_fits(self):
        self.refuse(3, 3, FRAME, NOTHING)
        self.refuse(0, 9, Frame(8, most=0), LOOKS)

    def test_behind_wrong_looks(self):
        for call in (slot, free_days):
            with self.assertRaises(InvalidLooks) as caught:
                call(FRAME, [LOOKS[0], None], 3, 3)
            self.assertEqual(caught.exception.at, 1)
            with self.assertRaises(InvalidLooks) as caught:
                call(FRAME, None, "a", "b")
            self.assertEqual(caught.exception.at, 0)


class Sizes(unittest.TestCase):
    def test_one_and_the_whole_day(self):
        self.assertEqual(best_slots(FRAME, LOOKS, 1), (0, 1, 6, 7))
        self.assertEqual(best_slots(FRAME, LOOKS, 8), (0,))
        self.assertEqual(best_slots(FRAME, LOOKS, 7), (0, 1))
        self.assertEqual(best_slots(FRAME, LOOKS, 2), (0, 6))
        self.assertEqual(best_slots(Frame(1), (), 1), (0,))

    def test_all_never_free(self):
        frame, looks = Frame(4), [(Rule(), ((0, 4, "busy"),))]
        self.assertEqual(best_slots(frame, looks, 1), (0, 1, 2, 3))
        self.assertEqual(best_slots(frame, looks, 3), (0, 1))

    def test_seldom_free(self):
        frame, looks = Frame(6, 2, most=1), [(Rule(step=3), ((0, 6, "busy"),))]
        # One meeting from 0, 1 or 2 to 4, 5 or 6.
        self.assertEqual(best_slots(frame, looks, 1), (0, 5))
        self.assertEqual(free_days(frame, looks, 0, 1), 6)
        self.assertEqual(free_days(frame, looks, 0, 2), 3)
        self.assertEqual(best_slots(frame, looks, 3), (0, 1, 2, 3))


class Against(unittest.TestCase):
    def test_trying_all_days(self):
        days = {(length, private): all_days(length, private) for length in range(1, 7) for private in (True, False)}
        none_fits, words = 0, {"always": 0, "never": 0, "sometimes": 0, None: 0}
        for seed in range(360):
            length, private = 1 + seed % 6, seed // 6 % 2 == 0
            frame, looks = some_question(1000 + seed, length, private, 4)
            fitting = plain_fits(frame, looks, days[length, private])
            asked = (str(frame), looks)
            none_fits += not fitting
            self.assertEqual(sure(frame, looks), plain_sure(frame, fitting), asked)
            for begin, end in slots(length):
                word = slot(frame, looks, begin, end)
                words[word] += 1
                self.assertEqual(word, plain_slot(fitting, begin, end), asked)
                self.assertEqual(free_days(frame, looks, begin, end), plain_free(fitting, begin, end), asked)
            for size in range(1, length + 1):
                self.assertEqual(best_slots(frame, looks, size), plain_best(frame, fitting, size), asked)
        self.assertGreater(none_fits, 15)
        self.assertGreater(min(words.values()), 100)


class Limits(unittest.TestCase):
    def agree(self, frame, looks):
        """Hold what is told of a frame, whose days cannot be listed, against how many days fit with known ticks."""
        many = many_days(frame, looks)
        free, taken = sure(frame, looks)
        for tick in range(frame.length):
            left = many_days(frame.knowing(tick, False), looks)
            self.assertEqual(free_days(frame, looks, tick, tick + 1), left)
            self.assertEqual((tick in free, tick in taken), (left == many, left == 0))
        for begin, end in ((0, frame.length), (3, 9), (9, 17), (frame.length - 5, frame.length)):
            known = frame
            for tick in range(begin, end):
                known = known.knowing(tick, False)
            left = many_days(known, looks)
            self.assertEqual(free_days(frame, looks, begin, end), left)
            self.assertEqual(slot(frame, looks, begin, end),
                             "always" if left == many else "sometimes" if left else "never")
        told = [free_days(frame, looks, begin, begin + 2) for begin in range(frame.length - 1)]
        self.assertEqual(best_slots(frame, looks, 2), tuple(
            begin for begin, many in enumerate(told) if many == max(told)))

    def test_days_that_were_shown(self):
        rng = random.Random(17)
        for _ in range(4):
            shortest, private = rng.randint(1, 6), rng.random() < 0.7
            day = some_day(rng, 24, shortest, private)
            looks = [(rule, show(rule, day)) for rule in [some_rule(rng, 16, 26) for _ in range(4)]]
            known = [(tick, is_taken) for tick, is_taken in some_known(rng, day, 6) if (tick in day.taken) == is_taken]
            frame = Frame(24, shortest, rng.choice([None, len(day), 16]), private, known)
            self.assertIs(is_fit(frame, looks, day), True)
            self.agree(frame, looks)

    def test_somewhat_beyond(self):
        day = Day.read("30: 2-9, 12-19 private, 22-29")
        rules = [Rule(9, 17, 17), Rule(2, 20, 0, "one"), Rule(hours=(5, 49)), Rule(10), Rule(1, 0, 0, "none")]
        self.agree(Frame(30, 5, 20, True), [(rule, show(rule, day)) for rule in rules])
        self.assertEqual(sure(Frame(48), [(Rule(), ())]), (tuple(range(48)), ()))
        self.assertEqual(best_slots(Frame(48), (), 48), (0,))


if __name__ == "__main__":
    unittest.main()
