"""Point 11: frames."""

import random
import unittest

from brute import all_days, plain_lets, some_day, some_known
from dimdays.days import Day
from dimdays.errors import InvalidFrame, InvalidText
from dimdays.frames import Frame
from dimdays.rules import Rule
from samples import nested, things, without_kinds

NAMES = ("length", "shortest", "most", "private", "known")


def parts(frame):
    return tuple(getattr(frame, name) for name in NAMES)


class FrameCase(unittest.TestCase):
    def refuse(self, word, *arguments, **named):
        with self.assertRaises(InvalidFrame) as caught:
            Frame(*arguments, **named)
        self.assertEqual(caught.exception.word, word, (arguments, named))


class Making(FrameCase):
    def test_defaults(self):
        self.assertEqual(parts(Frame(5)), (5, 1, None, False, ()))
        self.assertIs(Frame(5).private, False)

    def test_attributes(self):
        frame = Frame(12, 2, 3, True, [(5, True), (0, False)])
        self.assertEqual(parts(frame), (12, 2, 3, True, ((5, True), (0, False))))
        self.assertIs(type(frame.known), tuple)
        self.assertEqual(parts(Frame(1, most=0)), (1, 1, 0, False, ()))

    def test_limits_and_beyond(self):
        known = tuple((tick, True) for tick in range(6))
        self.assertEqual(parts(Frame(24, 6, 16, True, known)), (24, 6, 16, True, known))
        self.assertEqual(parts(Frame(60, 70, 80, True, known * 3)), (60, 70, 80, True, known * 3))

    def test_wrong_length(self):
        for length in [0, -1, -(10 ** 30)] + without_kinds(int):
            self.refuse("length", length)
            self.refuse("length", length=length)

    def test_wrong_shortest(self):
        for shortest in [0, -1, -(10 ** 30)] + without_kinds(int):
            self.refuse("shortest", 5, shortest)
            self.refuse("shortest", length=5, shortest=shortest)

    def test_wrong_most(self):
        for most in [-1, -(10 ** 30)] + without_kinds(int):
            if most is not None:
                self.refuse("most", 5, 1, most)
                self.refuse("most", 5, most=most)

    def test_wrong_private(self):
        for private in things():
            if private is not True and private is not False:
                self.refuse("private", 5, 1, None, private)
                self.refuse("private", 5, private=private)

    def test_wrong_known(self):
        for known in things():
            if known not in ([], (), ((0, True),)):
                self.refuse("known", 5, 1, None, False, known)
        for pair in ([0, True], (0, 1), (0, 0), (True, True), (False, True), (5, True), (-1, True), (10 ** 30, True),
                     (0,), (0, True, False), (), (None, True), ("0", True), (0, None), (0, "taken"),
                     ((0, True),), (True, 0),
                     (0, (True,)), 0, True, Rule(), Day(1)):
            self.refuse("known", 5, known=[pair])
            self.refuse("known", 5, known=((0, True), pair))
            self.refuse("known", 5, known=[pair, (0, True)])
        self.refuse("known", 5, known={0: True})
        self.refuse("known", 5, known=(0, True))

    def test_ticks_of_the_day(self):
        self.assertEqual(Frame(5, known=[(4, False)]).known, ((4, False),))
        self.refuse("known", 4, known=[(4, False)])

    def test_twice_and_against_one_another(self):
        known = ((2, True), (2, True), (2, False))
        self.assertEqual(Frame(5, known=known).known, known)

    def test_first_wrong_one(self):
        wrong = {"length": 0, "shortest": True, "most": -1, "private": None, "known": 3}
        right = {"length": 5}
        for at, name in enumerate(NAMES):
            told = {other: wrong[other] for other in NAMES[at:]}
            self.refuse(name, **{**right, **told})
            self.refuse(name, **dict(reversed(list({**right, **told}.items()))))
        self.refuse("length", *wrong.values())


class Knowing(FrameCase):
    def test_one_more_at_the_end(self):
        frame = Frame(9, 2, 3, True, [(5, True)])
        more = frame.knowing(1, False)
        self.assertEqual(parts(more), (9, 2, 3, True, ((5, True), (1, False))))
        self.assertEqual(parts(frame), (9, 2, 3, True, ((5, True),)))
        self.assertEqual(more.knowing(1, True).known, ((5, True), (1, False), (1, True)))
        self.assertEqual(more.knowing(1, False).known, ((5, True), (1, False), (1, False)))

    def test_wrong_values(self):
        frame = Frame(9)
        pairs = [(tick, True) for tick in [9, -1, 10 ** 30] + without_kinds(int)]
        pairs += [(0, told) for told in things() if told is not True and told is not False]
        pairs += [(True, 1), (None, None), (nested(8, 0), nested(8, True))]
        for tick, is_taken in pairs:
            with self.assertRaises(InvalidFrame) as caught:
                frame.knowing(tick, is_taken)
            self.assertEqual(caught.exception.word, "known")
        self.assertEqual(frame, Frame(9))


class Lets(unittest.TestCase):
    def test_length(self):
        self.assertIs(Frame(5).lets(Day(5)), True)
        self.assertIs(Frame(5).lets(Day(4)), False)
        self.assertIs(Frame(5).lets(Day(6)), False)
        self.assertIs(Frame(5, known=[(4, True)]).lets(Day(3, [(0, 3, False)])), False)
        self.assertIs(Frame(5, known=[(4, False)]).lets(Day(3)), False)

    def test_shortest(self):
        frame = Frame(9, 3)
        self.assertIs(frame.lets(Day.read("9: 0-3, 3-6")), True)
        self.assertIs(frame.lets(Day.read("9: 0-2")), False)
        self.assertIs(frame.lets(Day.read("9: 0-3, 4-6")), False)
        self.assertIs(frame.lets(Day.read("9: 0-3, 7-9")), False)
        self.assertIs(frame.lets(Day.read("9: -")), True)

    def test_most(self):
        self.assertIs(Frame(9, 1, 0).lets(Day(9)), True)
        self.assertIs(Frame(9, 1, 0).lets(Day.read("9: 2-4")), False)
        self.assertIs(Frame(9, 1, 2).lets(Day.read("9: 2-4, 4-5")), True)
        self.assertIs(Frame(9, 1, 2).lets(Day.read("9: 2-4, 4-5, 8-9")), False)
        self.assertIs(Frame(9).lets(Day.read("9: 2-4, 4-5, 8-9")), True)

    def test_private(self):
        self.assertIs(Frame(9).lets(Day.read("9: 1-2, 2-4 private")), False)
        self.assertIs(Frame(9, private=True).lets(Day.read("9: 1-2, 2-4 private")), True)
        self.assertIs(Frame(9, private=True).lets(Day.read("9: 1-2")), True)

    def test_known(self):
        day = Day.read("9: 2-4 private, 6-7")
        for tick in range(9):
            for is_taken in (True, False):
                frame = Frame(9, private=True, known=[(tick, is_taken)])
                self.assertIs(frame.lets(day), (tick in (2, 3, 6)) is is_taken)
        self.assertIs(Frame(9, private=True, known=[(2, True), (5, False), (6, True)]).lets(day), True)
        self.assertIs(Frame(9, private=True, known=[(2, True), (5, False), (7, True)]).lets(day), False)
        self.assertIs(Frame(9, private=True, known=[(2, True), (2, False)]).lets(day), False)
        self.assertIs(Frame(9, private=True, known=[(2, True), (2, True)]).lets(day), True)

    def test_all_small_days(self):
        rng = random.Random(11)
        days = all_days(6) + [Day(5), Day(7)]
        for _ in range(60):
            known = some_known(rng, some_day(rng, 6, 1, True), rng.randint(0, 3))
            frame = Frame(6, rng.randint(1, 3), rng.choice([None, 0, 1, 2, 3]), rng.random() < 0.7, known)
            for day in days:
                self.assertIs(frame.lets(day), plain_lets(frame, day), (str(frame), str(day)))


TEXTS = {
    "length 12 shortest 2": Frame(12, 2),
    "length 12 shortest 2 most 3": Frame(12, 2, 3),
    "length 12 shortest 2 most 0": Frame(12, 2, 0),
    "length 12 shortest 2 most 99": Frame(12, 2, 99),
    "length 12 shortest 2 private": Frame(12, 2, None, True),
    "length 12 shortest 2 most 3 private": Frame(12, 2, 3, True),
    "length 12 shortest 2 taken 5 free 0": Frame(12, 2, known=((5, True), (0, False))),
    "length 12 shortest 2 free 0 taken 5": Frame(12, 2, known=((0, False), (5, True))),
    "length 12 shortest 2 most 3 private taken 5 free 0": Frame(12, 2, 3, True, ((5, True), (0, False))),
    "length 1 shortest 1 free 0 taken 0 free 0": Frame(1, 1, known=((0, False), (0, True), (0, False))),
    "length 99 shortest 99 most 10 private free 98": Frame(99, 99, 10, True, ((98, False),)),
}


class Texts(unittest.TestCase):
    def refuse(self, text):
        with self.assertRaises(InvalidText) as caught:
            Frame.read(text)
        self.assertEqual(caught.exception.at, 0, text)

    def test_there_and_back(self):
        for text, frame in TEXTS.items():
            self.assertEqual(str(frame), text)
            self.assertEqual(Frame.read(text), frame)
            self.assertEqual(parts(Frame.read(text)), parts(frame))

    def test_defaults_are_told(self):
        self.assertEqual(str(Frame(8)), "length 8 shortest 1")

    def test_other_forms(self):
        for text in ("", " ", "length", "length 12", "length 12 shortest", "shortest 2 length 12",
                     "length 12 shortest 2 ", " length 12 shortest 2", "length  12 shortest 2",
                     "length 12 shortest 2\n", "length 12\nshortest 2", "Length 12 shortest 2",
                     "length 12 shortest 2 most", "length 12 shortest 2 most None",
                     "length 12 shortest 2 most private", "length 12 shortest 2 private private",
                     "length 12 shortest 2 private most 3", "length 12 shortest 2 taken 5 private",
                     "length 12 shortest 2 taken 5 most 3", "length 12 shortest 2 most 3 most 3",
                     "length 12 shortest 2 taken", "length 12 shortest 2 taken 5 free", "length 12 shortest 2 5 taken",
                     "length 12 shortest 2 taken 5, free 0", "length 12 shortest 2 busy 5",
                     "length 12 shortest 2 free -", "length 12 shortest 2 taken 5 5", "length 12 shortest 2 3",
                     "length 12 shortest 2 private True",
                     "length 12 least 2", "12 shortest 2", "length 12 shortest 2 known", "length -1 shortest 2",
                     "length 1.5 shortest 2", "length 12 shortest 2 most -1", "length 12 shortest 2  private"):
            self.refuse(text)

    def test_numbers(self):
        for text in ("length 012 shortest 2", "length 12 shortest 02", "length 12 shortest 2 most 03",
                     "length 12 shortest 2 taken 05", "length 100 shortest 2", "length 12 shortest 100",
                     "length 12 shortest 2 most 100", "length 12 shortest 2 taken 100", "length \u0662 shortest 2",
                     "length 12 shortest \u00b2", "length 00 shortest 2"):
            self.refuse(text)

    def test_form_ahead_of_the_frame(self):
        self.refuse("length 0 shortest 0 most 100")
        self.refuse("length 0 shortest 2 taken")

    def test_invalid_frames(self):
        for text, word in (("length 0 shortest 2", "length"), ("length 12 shortest 0", "shortest"),
                           ("length 0 shortest 0", "length"), ("length 12 shortest 2 taken 12", "known"),
                           ("length 12 shortest 2 free 0 free 99", "known"),
                           ("length 12 shortest 0 most 0 private taken 99", "shortest")):
            with self.assertRaises(InvalidFrame) as caught:
                Frame.read(text)
            self.assertEqual(caught.exception.word, word, text)

    def test_any_value(self):
        for value in things():
            self.refuse(value)
        self.refuse(Frame(3))
        self.refuse(["length 12 shortest 2"])
        self.refuse(b"length 12 shortest 2")


class Equality(unittest.TestCase):
    def test_equal_if_the_texts_are(self):
        frames = list(TEXTS.values()) + [Frame(12), Frame(11, 2), Frame(12, 3)]
        for at, one in enumerate(frames):
            for also, other in enumerate(frames):
                self.assertIs(one == other, at == also)
                self.assertIs(one != other, at != also)
                self.assertIs(str(one) == str(other), at == also)

    def test_lists_and_tuples(self):
        self.assertEqual(Frame(3, known=[(0, True)]), Frame(3, known=((0, True),)))

    def test_other_classes(self):
        frame = Frame(4)
        for thing in things() + [str(frame), 4, (4, 1, None, False, ())]:
            self.assertIs(frame == thing, False)
            self.assertIs(thing == frame, False)


if __name__ == "__main__":
    unittest.main()
