"""Point 12: looks, and which days fit them."""

import unittest

from brute import all_days, plain_fits, some_question
from dimdays.changes import change, least_change
from dimdays.choosing import best_looks, left
from dimdays.days import Day
from dimdays.errors import InvalidLooks
from dimdays.frames import Frame
from dimdays.knowing import a_day, fits, is_fit, many_days
from dimdays.meetings import begins, can_be, ends, fewest, greatest, shared
from dimdays.net import after, begun, closes, layers
from dimdays.papers import paper, paper_holds
from dimdays.rules import Rule
from dimdays.showing import show
from dimdays.sure import best_slots, free_days, slot, sure
from samples import nested, things

FRAME = Frame(6)
LOOK = (Rule(), ((1, 3, "busy"),))
STANDING = ("", 0, 0, (((0, None), (0, None)),))

# Each function that gets looks, called with some.
CALLS = {
    "begun": lambda looks: begun(FRAME, looks),
    "after": lambda looks: after(FRAME, looks, 0, STANDING, "free"),
    "closes": lambda looks: closes(FRAME, looks, STANDING),
    "layers": lambda looks: layers(FRAME, looks),
    "is_fit": lambda looks: is_fit(FRAME, looks, Day(6)),
    "fits": lambda looks: fits(FRAME, looks),
    "a_day": lambda looks: a_day(FRAME, looks),
    "many_days": lambda looks: many_days(FRAME, looks),
    "sure": lambda looks: sure(FRAME, looks),
    "slot": lambda looks: slot(FRAME, looks, 1, 3),
    "free_days": lambda looks: free_days(FRAME, looks, 1, 3),
    "best_slots": lambda looks: best_slots(FRAME, looks, 2),
    "fewest": lambda looks: fewest(FRAME, looks),
    "greatest": lambda looks: greatest(FRAME, looks),
    "begins": lambda looks: begins(FRAME, looks),
    "ends": lambda looks: ends(FRAME, looks),
    "can_be": lambda looks: can_be(FRAME, looks),
    "shared": lambda looks: shared([(FRAME, looks)]),
    "shared, later": lambda looks: shared([(FRAME, [LOOK]), (FRAME, looks)]),
    "paper": lambda looks: paper(FRAME, looks, 1, True),
    "paper_holds": lambda looks: paper_holds(FRAME, looks, 1, True, None),
    "left": lambda looks: left(FRAME, looks, Rule()),
    "best_looks": lambda looks: best_looks(FRAME, looks, [Rule(), Rule(2)]),
    "best_looks of none": lambda looks: best_looks(FRAME, looks, []),
    "least_change": lambda looks: least_change(FRAME, looks, [LOOK]),
    "least_change, later": lambda looks: least_change(FRAME, [LOOK], looks),
    "change": lambda looks: change(FRAME, looks, [LOOK]),
    "change, later": lambda looks: change(FRAME, [LOOK], looks),
}

NO_LOOKS = [
    [Rule(), ()], (), [], (Rule(),), (Rule(), (), ()), ((), Rule()), (Rule(), None), (None, ()), (Rule(), []),
    (Rule(), ((1, 3, "free"),)), (Rule(), ([1, 3, "busy"],)), (Rule(), [(1, 3, "busy")]), (Rule(), (1, 3, "busy")),
    (Rule(), ((3, 5, "busy"), (1, 2, "busy"))), (Rule(), ((1, 2, "busy"), (1, 2, "busy"))), (Rule(), ((3, 3, "busy"),)),
    (Rule(), ((False, 3, "busy"),)), (Rule, ()), (str(Rule()), ()), (Rule(), "-"), (Day(3), ()), (FRAME, ()),
    (LOOK,), [LOOK], Rule(), "-", None, 0, True, nested(8, LOOK),
]


class Looks(unittest.TestCase):
    def refuse(self, at, looks):
        for name, call in CALLS.items():
            with self.assertRaises(InvalidLooks, msg=name) as caught:
                call(looks)
            self.assertEqual(caught.exception.at, at, (name, looks))

    def test_right_ones(self):
        for looks in ([LOOK], (LOOK,)):
            self.assertEqual(many_days(FRAME, looks), 2)
            for call in CALLS.values():
                call(looks)
        for looks in ([], ()):
            self.assertEqual(begun(FRAME, looks), ("", 0, 0, ()))
            self.assertEqual(many_days(Frame(2), looks), 5)

    def test_no_sequence(self):
        for value in things():
            if not isinstance(value, (list, tuple)):
                self.refuse(0, value)
        self.refuse(0, {0: LOOK})
        self.refuse(0, FRAME)

    def test_no_looks_in_it(self):
        for value in things() + NO_LOOKS:
            self.refuse(0, [value])
            self.refuse(0, (value, LOOK))

    def test_a_look_is_no_sequence_of_looks(self):
        self.refuse(0, LOOK)

    def test_first_wrong_one(self):
        for wrong in NO_LOOKS:
            self.refuse(1, [LOOK, wrong])
            self.refuse(2, (LOOK, LOOK, wrong, LOOK, None))
            self.refuse(3, [LOOK] * 3 + [wrong, wrong])

    def test_told_again_behind_an_error(self):
        for name, call in CALLS.items():
            first = call([LOOK])
            with self.assertRaises(InvalidLooks):
                call([LOOK, LOOK[0]])
            self.assertEqual(call([LOOK]), first, name)
            with self.assertRaises(InvalidLooks):
                call(None)
            self.assertEqual(call((LOOK,)), first, name)

    def test_looks_that_nothing_fits_are_looks(self):
        for view in (((0, 3, "busy"), (1, 2, "busy")), ((40, 99, "private"),), ((0, 10 ** 9, "busy"),)):
            self.assertEqual(many_days(FRAME, [(Rule(), view)]), 0)


class Impossible(unittest.TestCase):
    def nothing(self, rule, view, frame=Frame(8, private=True)):
        looks = [(rule, view)]
        self.assertIs(fits(frame, looks), False, (str(rule), view))
        self.assertIsNone(a_day(frame, looks))
        self.assertEqual(many_days(frame, looks), 0)
        self.assertEqual(layers(frame, looks), ((),) * (frame.length + 1))
        self.assertIsNone(sure(frame, looks))
        self.assertIsNone(slot(frame, looks, 0, 1))
        self.assertEqual(free_days(frame, looks, 0, 1), 0)
        self.assertEqual((fewest(frame, looks), greatest(frame, looks)), (None, None))
        self.assertEqual((begins(frame, looks), ends(frame, looks), can_be(frame, looks)), (None, None, ()))
        self.assertEqual((left(frame, looks, Rule()), best_looks(frame, looks, [Rule(), Rule(2)])), (0, (0, 1)))
        for one, other in ((looks, ()), ((), looks), (looks, looks)):
            self.assertEqual((least_change(frame, one, other), change(frame, one, other)), (None, None))
        for tick, is_taken in ((0, True), (0, False)):
            told = paper(frame, looks, tick, is_taken)
            self.assertIs(paper_holds(frame, looks, tick, is_taken, told), True)

    def test_views_that_cannot_come_about(self):
        self.nothing(Rule(), ((0, 3, "busy"), (2, 4, "busy")))
        self.nothing(Rule(), ((0, 3, "busy"), (3, 4, "busy")))
        self.nothing(Rule(gap=1), ((0, 3, "busy"), (4, 5, "busy")))
        self.nothing(Rule(2), ((1, 3, "busy"),))
        self.nothing(Rule(2), ((0, 3, "busy"),))
        self.nothing(Rule(least=4), ((0, 3, "busy"),))
        self.nothing(Rule(hours=(2, 5)), ((1, 4, "busy"),))
        self.nothing(Rule(hours=(2, 5)), ((4, 6, "busy"),))
        self.nothing(Rule(hours=(20, 30)), ((20, 21, "busy"),))
        self.nothing(Rule(), ((7, 9, "busy"),))
        self.nothing(Rule(), ((8, 9, "busy"),))
        self.nothing(Rule(), ((90, 99, "busy"),))
        self.nothing(Rule(), ((1, 2, "private"),))
        self.nothing(Rule(private="none"), ((1, 2, "private"),))
        self.nothing(Rule(private="one"), ((1, 2, "private"), (4, 5, "private")))
        self.nothing(Rule(private="apart", gap=2), ((1, 2, "private"), (4, 5, "private")))

    def test_that_the_frame_does_not_let_come_about(self):
        self.nothing(Rule(private="apart"), ((1, 2, "private"),), Frame(8))
        self.nothing(Rule(), ((1, 3, "busy"),), Frame(8, 3))
        self.nothing(Rule(), ((1, 3, "busy"),), Frame(8, most=0))
        self.nothing(Rule(), ((1, 3, "busy"), (5, 6, "busy")), Frame(8, most=1))
        self.nothing(Rule(), ((1, 3, "busy"),), Frame(8, known=[(3, True)]))
        self.nothing(Rule(), ((1, 3, "busy"),), Frame(8, known=[(2, False)]))
        self.nothing(Rule(hours=(0, 2)), (), Frame(8, known=[(5, True), (5, False)]))

    def test_looks_that_contradict_one_another(self):
        looks = [(Rule(), ((1, 3, "busy"),)), (Rule(), ((1, 4, "busy"),))]
        self.assertEqual(many_days(FRAME, looks), 0)
        self.assertEqual(many_days(FRAME, looks[:1]), 2)


class Fitting(unittest.TestCase):
    def test_against_trying_all_days(self):
        for seed in range(60):
            private = seed % 2 == 0
            frame, looks = some_question(seed, 5, private, 3)
            days = all_days(5)
            self.assertEqual([day for day in days if is_fit(frame, looks, day)], plain_fits(frame, looks, days))

    def test_the_day_that_was_shown_fits(self):
        day = Day.read("8: 1-3, 3-5 private")
        looks = [(rule, show(rule, day)) for rule in (Rule(2), Rule(private="apart"), Rule(3, 2, 4, "one", (1, 9)))]
        self.assertIs(is_fit(Frame(8, 2, 2, True), looks, day), True)
        self.assertIs(is_fit(Frame(8, 2, 2, True), looks, Day.read("8: 1-3, 3-6 private")), False)


if __name__ == "__main__":
    unittest.main()
