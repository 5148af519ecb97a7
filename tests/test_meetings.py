"""Point 18: what is known of the meetings of the days that fit; and the limits of point 3."""

import random
import unittest

from brute import all_days, plain_fits, some_day, some_question, some_rule
from dimdays.days import Day
from dimdays.errors import InvalidLooks
from dimdays.frames import Frame
from dimdays.knowing import many_days
from dimdays.meetings import begins, can_be, ends, fewest, greatest, shared
from dimdays.rules import Rule
from dimdays.showing import show

RULE, FRAME = Rule(step=2), Frame(8, shortest=2)
LOOKS = [(RULE, ((2, 6, "busy"),))]
NOTHING = [(RULE, ((1, 6, "busy"),))]


def numbers(day, at):
    """Return the begins (0) or the ends (1) of the meetings of a day."""
    return [meeting[at] for meeting in day.meetings]


def plain_numbers(days, at):
    if not days:
        return None
    some = sorted({number for day in days for number in numbers(day, at)})
    return tuple(number for number in some if all(number in numbers(day, at) for day in days)), tuple(some)


def plain_can_be(days):
    return tuple(sorted({meeting for day in days for meeting in day.meetings}))


def plain_shared(lists):
    pairs = [{meeting[:2] for meeting in plain_can_be(days) if not meeting[2]} for days in lists]
    return tuple(sorted(set.intersection(*pairs)))


class Ordinary(unittest.TestCase):
    def test_examples(self):
        self.assertEqual((fewest(FRAME, LOOKS), greatest(FRAME, LOOKS), begins(FRAME, LOOKS)), (1, 2, ((), (2, 3, 4))))
        self.assertEqual(can_be(FRAME, LOOKS), ((2, 4, False), (2, 5, False), (2, 6, False), (3, 5, False),
                                                (3, 6, False), (4, 6, False)))
        self.assertEqual(shared([(FRAME, LOOKS), (FRAME, [(Rule(step=3), ((3, 6, "busy"),))])]),
                         ((3, 5), (3, 6), (4, 6)))
        self.assertEqual(ends(FRAME, LOOKS), ((), (4, 5, 6)))

    def test_no_looks(self):
        self.assertEqual((fewest(Frame(3), ()), greatest(Frame(3), ())), (0, 3))
        self.assertEqual((fewest(Frame(7, 2), ()), greatest(Frame(7, 2), [])), (0, 3))
        self.assertEqual(greatest(Frame(7, 2, 2), ()), 2)
        self.assertEqual(greatest(Frame(7, 2, 5), ()), 3)
        self.assertEqual(begins(Frame(3), ()), ((), (0, 1, 2)))
        self.assertEqual(ends(Frame(3), ()), ((), (1, 2, 3)))
        self.assertEqual(begins(Frame(3, 2), ()), ((), (0, 1)))
        self.assertEqual(ends(Frame(3, 2), ()), ((), (2, 3)))
        self.assertEqual(can_be(Frame(2), ()), ((0, 1, False), (0, 2, False), (1, 2, False)))
        self.assertEqual(can_be(Frame(2, private=True), ()), (
            (0, 1, False), (0, 1, True), (0, 2, False), (0, 2, True), (1, 2, False), (1, 2, True)))

    def test_in_all_days(self):
        looks = [(Rule(), ((1, 3, "busy"), (5, 8, "busy")))]
        self.assertEqual(begins(Frame(8), looks), ((1, 5), (1, 2, 5, 6, 7)))
        self.assertEqual(ends(Frame(8), looks), ((3, 8), (2, 3, 6, 7, 8)))
        self.assertEqual(begins(Frame(8, 2), looks), ((1, 5), (1, 5)))
        self.assertEqual(ends(Frame(8, 2), looks), ((3, 8), (3, 8)))
        self.assertEqual((fewest(Frame(8), looks), greatest(Frame(8), looks)), (2, 5))
        self.assertEqual((fewest(Frame(8, 1, 4), looks), greatest(Frame(8, 1, 4), looks)), (2, 4))

    def test_at_the_ends_of_the_day(self):
        frame = Frame(1, known=[(0, True)])
        self.assertEqual(begins(frame, ()), ((0,), (0,)))
        self.assertEqual(ends(frame, ()), ((1,), (1,)))
        self.assertEqual(can_be(frame, ()), ((0, 1, False),))

    def test_meetings_that_touch(self):
        frame, looks = Frame(4, known=[(1, True), (2, True)]), ()
        self.assertEqual(ends(frame, looks), ((), (1, 2, 3, 4)))
        looks = [(Rule(least=2), ((1, 3, "busy"),))]
        self.assertEqual(ends(Frame(4), looks), ((3,), (2, 3)))
        self.assertEqual(begins(Frame(4), looks), ((1,), (1, 2)))

    def test_private_ones(self):
        frame = Frame(4, private=True)
        looks = [(Rule(private="apart"), ((0, 2, "busy"), (2, 4, "private")))]
        self.assertEqual(begins(frame, looks), ((0, 2), (0, 1, 2, 3)))
        self.assertEqual(can_be(frame, looks), ((0, 1, False), (0, 2, False), (1, 2, False), (2, 3, True),
                                                (2, 4, True), (3, 4, True)))
        self.assertEqual(shared([(frame, looks)]), ((0, 1), (0, 2), (1, 2)))
        self.assertEqual(ends(Frame(4, 2, private=True), looks), ((2, 4), (2, 4)))
        self.assertEqual(shared([(Frame(4, private=True), ()), (frame, looks)]), ((0, 1), (0, 2), (1, 2)))

    def test_no_meetings(self):
        for frame in (Frame(5, most=0), Frame(5, 6)):
            self.assertEqual((fewest(frame, ()), greatest(frame, ())), (0, 0))
            self.assertEqual(begins(frame, ()), ((), ()))
            self.assertEqual(ends(frame, ()), ((), ()))
            self.assertEqual(can_be(frame, ()), ())
            self.assertEqual(shared([(frame, ())]), ())


class NoDayFits(unittest.TestCase):
    def test_none(self):
        for frame, looks in ((FRAME, NOTHING), (Frame(8, most=0), LOOKS),
                             (Frame(8, known=[(1, True), (1, False)]), ())):
            self.assertIsNone(fewest(frame, looks))
            self.assertIsNone(greatest(frame, looks))
            self.assertIsNone(begins(frame, looks))
            self.assertIsNone(ends(frame, looks))
            self.assertEqual(can_be(frame, looks), ())
            self.assertEqual(shared([(frame, looks)]), ())
            self.assertEqual(shared([(FRAME, LOOKS), (frame, looks)]), ())
            self.assertEqual(shared([(frame, looks), (FRAME, LOOKS)]), ())


class Shared(unittest.TestCase):
    def test_one_pair(self):
        pairs = ((2, 4), (2, 5), (2, 6), (3, 5), (3, 6), (4, 6))
        for several in ([(FRAME, LOOKS)], ((FRAME, tuple(LOOKS)),), [(FRAME, LOOKS)] * 3):
            self.assertEqual(shared(several), pairs)

    def test_frames_of_several_lengths(self):
        self.assertEqual(shared([(Frame(2), ()), (Frame(9, 2), ())]), ((0, 2),))
        self.assertEqual(shared([(Frame(3, 3), ()), (Frame(9), ()), (Frame(4, 2), ())]), ((0, 3),))
        self.assertEqual(shared([(Frame(2, 2), ()), (Frame(3, 3), ())]), ())

    def test_private_ones_are_not_shared(self):
        private = (Frame(3, private=True), [(Rule(private="apart"), ((0, 3, "private"),))])
        self.assertEqual(shared([private]), ())
        self.assertEqual(shared([private, private]), ())
        self.assertEqual(shared([(Frame(3), ()), private]), ())

    def test_wrong_looks_in_pairs(self):
        for several, at in (([(FRAME, None)], 0), ([(FRAME, LOOKS), (FRAME, [LOOKS[0], (RULE, [])])], 1),
                            ([(FRAME, [LOOKS[0], LOOKS[0], 3]), (FRAME, None)], 2), ([(FRAME, LOOKS[0])], 0)):
            with self.assertRaises(InvalidLooks) as caught:
                shared(several)
            self.assertEqual(caught.exception.at, at)


class Against(unittest.TestCase):
    def test_trying_all_days(self):
        days = {(length, private): all_days(length, private) for length in range(1, 7) for private in (True, False)}
        asked = []
        for seed in range(360):
            length, private = 1 + seed % 6, seed // 6 % 2 == 0
            frame, looks = some_question(2000 + seed, length, private, 4)
            fitting = plain_fits(frame, looks, days[length, private])
            told = (str(frame), looks)
            self.assertEqual(fewest(frame, looks), min(map(len, fitting), default=None), told)
            self.assertEqual(greatest(frame, looks), max(map(len, fitting), default=None), told)
            self.assertEqual(begins(frame, looks), plain_numbers(fitting, 0), told)
            self.assertEqual(ends(frame, looks), plain_numbers(fitting, 1), told)
            self.assertEqual(can_be(frame, looks), plain_can_be(fitting), told)
            asked.append((frame, looks, fitting))
        rng = random.Random(18)
        found = 0
        for _ in range(200):
            several = rng.sample(asked, rng.randint(1, 3))
            wanted = plain_shared([fitting for _, _, fitting in several])
            self.assertEqual(shared([(frame, looks) for frame, looks, _ in several]), wanted)
            found += len(wanted) > 0
        self.assertGreater(found, 40)


class Limits(unittest.TestCase):
    def agree(self, frame, looks):
        """Hold what is told of a frame, whose days cannot be listed, against how many days fit."""
        low, high = fewest(frame, looks), greatest(frame, looks)
        most = frame.most if frame.most is not None else frame.length
        fitting = [many_days(Frame(frame.length, frame.shortest, many, frame.private, frame.known), looks)
                   for many in range(most + 1)]
        self.assertEqual(low, min(many for many in range(most + 1) if fitting[many]))
        self.assertEqual(high, min(many for many in range(most + 1) if fitting[many] == fitting[-1]))
        meetings = can_be(frame, looks)
        self.assertEqual(begins(frame, looks)[1], tuple(sorted({begin for begin, _, _ in meetings})))
        self.assertEqual(ends(frame, looks)[1], tuple(sorted({end for _, end, _ in meetings})))
        for at, told in ((0, begins(frame, looks)), (1, ends(frame, looks))):
            self.assertTrue(set(told[0]) <= set(told[1]))
            self.assertTrue(len(told[0]) <= low)
        self.assertEqual(shared([(frame, looks)] * 2),
                         tuple((begin, end) for begin, end, is_private in meetings if not is_private))

    def test_days_that_were_shown(self):
        rng = random.Random(18)
        for _ in range(8):
            shortest, private = rng.randint(1, 6), rng.random() < 0.7
            day = some_day(rng, 24, shortest, private)
            looks = [(rule, show(rule, day)) for rule in [some_rule(rng, 16, 26) for _ in range(4)]]
            frame = Frame(24, shortest, rng.choice([None, len(day), 16]), private)
            self.agree(frame, looks)
            self.assertTrue(set(day.meetings) <= set(can_be(frame, looks)))
            self.assertTrue({begin for begin, _, _ in day.meetings} >= set(begins(frame, looks)[0]))
            self.assertTrue({end for _, end, _ in day.meetings} >= set(ends(frame, looks)[0]))

    def test_somewhat_beyond(self):
        day = Day.read("30: 2-9, 12-19 private, 22-29")
        rules = [Rule(9, 17, 17), Rule(2, 20, 0, "one"), Rule(hours=(5, 49)), Rule(10), Rule(1, 0, 0, "none")]
        self.agree(Frame(30, 5, 20, True), [(rule, show(rule, day)) for rule in rules])
        self.assertEqual(greatest(Frame(48), ()), 48)
        self.assertEqual(len(can_be(Frame(48), ())), 48 * 49 // 2)
        self.assertEqual(shared([(Frame(48, 47), ())] * 9), ((0, 47), (0, 48), (1, 48)))


if __name__ == "__main__":
    unittest.main()
