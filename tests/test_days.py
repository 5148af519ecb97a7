"""Points 5 and 6: days."""

import unittest

from dimdays.days import Day
from dimdays.errors import InvalidDay, InvalidText, NoMeeting
from dimdays.rules import Rule
from samples import nested, things, without_kinds


class DayCase(unittest.TestCase):
    def refuse(self, word, *arguments, **named):
        with self.assertRaises(InvalidDay) as caught:
            Day(*arguments, **named)
        self.assertEqual(caught.exception.word, word, (arguments, named))

    def miss(self, at, call):
        with self.assertRaises(NoMeeting) as caught:
            call(at)
        self.assertEqual(caught.exception.at, at)


class Making(DayCase):
    def test_attributes(self):
        day = Day(12, [(2, 5, False), (7, 8, True)])
        self.assertEqual((day.length, day.meetings), (12, ((2, 5, False), (7, 8, True))))
        self.assertIs(type(day.meetings), tuple)

    def test_no_meetings(self):
        for day in (Day(3), Day(3, ()), Day(3, [])):
            self.assertEqual((day.length, day.meetings, len(day), day.taken), (3, (), 0, ()))
            self.assertIs(type(day.meetings), tuple)

    def test_one_tick(self):
        self.assertEqual(Day(1).meetings, ())
        self.assertEqual(Day(1, [(0, 1, True)]).meetings, ((0, 1, True),))
        self.refuse("meetings", 1, [(0, 2, False)])
        self.refuse("meetings", 1, [(1, 1, False)])
        self.refuse("meetings", 1, [(0, 1, False), (1, 2, False)])

    def test_meetings_that_touch(self):
        day = Day(6, ((0, 2, False), (2, 3, True), (3, 6, False)))
        self.assertEqual(day.meetings, ((0, 2, False), (2, 3, True), (3, 6, False)))

    def test_last_end(self):
        self.assertEqual(len(Day(6, [(4, 6, False)])), 1)
        self.refuse("meetings", 6, [(4, 7, False)])
        self.refuse("meetings", 6, [(0, 1, False), (6, 7, False)])

    def test_long_day(self):
        meetings = [(tick, tick + 1, tick % 2 == 0) for tick in range(48)]
        self.assertEqual(Day(48, meetings).meetings, tuple(meetings))
        self.assertEqual(Day(60, [(50, 60, False)]).taken, tuple(range(50, 60)))

    def test_wrong_length(self):
        for length in [0, -1, -(10 ** 30)] + without_kinds(int):
            self.refuse("length", length)
            self.refuse("length", length=length, meetings=[])

    def test_wrong_length_goes_first(self):
        for meetings in (None, 3, [(5, 2, False)], [(0, 1)]):
            self.refuse("length", True, meetings)
            self.refuse("length", 0, meetings)
            self.refuse("length", meetings=meetings, length="4")

    def test_wrong_meetings(self):
        for meetings in without_kinds(list, tuple):
            self.refuse("meetings", 9, meetings)
        for thing in things():
            self.refuse("meetings", 9, [thing])
            self.refuse("meetings", 9, ((0, 1, False), thing))
            self.refuse("meetings", 9, ([0, 1, False], thing))

    def test_meeting_is_a_triple(self):
        self.refuse("meetings", 9, [(0, 1)])
        self.refuse("meetings", 9, [(0, 1, False, False)])
        self.refuse("meetings", 9, [[0, 1, False]])
        self.refuse("meetings", 9, (0, 1, False))
        self.refuse("meetings", 9, nested(8, (0, 1, False)))

    def test_wrong_parts_of_a_meeting(self):
        for begin in [-1, -(10 ** 30)] + without_kinds(int):
            self.refuse("meetings", 9, [(begin, 3, False)])
        for end in [-1, 0, 10 ** 30] + without_kinds(int):
            self.refuse("meetings", 9, [(0, end, False)])
        for is_private in without_kinds(bool):
            self.refuse("meetings", 9, [(0, 3, is_private)])

    def test_bools_are_no_numbers(self):
        self.refuse("meetings", 9, [(False, 3, False)])
        self.refuse("meetings", 9, [(0, True, False)])
        self.refuse("meetings", 9, [(0, 1, 0)])
        self.refuse("meetings", 9, [(0, 1, 1)])

    def test_empty_or_turned_about(self):
        self.refuse("meetings", 9, [(3, 3, False)])
        self.refuse("meetings", 9, [(4, 3, False)])
        self.refuse("meetings", 9, [(0, 0, False)])

    def test_overlap_and_order(self):
        self.refuse("meetings", 9, [(1, 4, False), (3, 5, False)])
        self.refuse("meetings", 9, [(1, 4, False), (1, 4, True)])
        self.refuse("meetings", 9, [(4, 5, False), (1, 2, False)])
        self.refuse("meetings", 9, [(1, 8, False), (2, 3, False)])
        self.refuse("meetings", 9, [(1, 2, False), (4, 6, False), (5, 7, True)])


class Asking(DayCase):
    def setUp(self):
        self.day = Day(12, [(0, 2, False), (2, 3, True), (5, 8, False), (11, 12, True)])

    def test_taken(self):
        self.assertEqual(self.day.taken, (0, 1, 2, 5, 6, 7, 11))
        self.assertIs(type(self.day.taken), tuple)
        self.assertEqual(Day(3, [(0, 3, True)]).taken, (0, 1, 2))

    def test_length_and_index(self):
        self.assertEqual(len(self.day), 4)
        for at in range(4):
            self.assertEqual(self.day[at], self.day.meetings[at])

    def test_no_such_index(self):
        for at in (4, 5, -1, -4, -5, 10 ** 30, -(10 ** 30)):
            self.miss(at, lambda at: self.day[at])
            self.miss(at, self.day.without)
        for at in (0, 1, -1):
            self.miss(at, lambda at: Day(5)[at])
            self.miss(at, Day(5).without)

    def test_without(self):
        for at in range(4):
            left = self.day.without(at)
            rest = [meeting for k, meeting in enumerate(self.day.meetings) if k != at]
            self.assertEqual((left.length, left.meetings), (12, tuple(rest)))
        self.assertEqual(Day(4, [(1, 2, True)]).without(0), Day(4))

    def test_having(self):
        for at in range(4):
            self.assertEqual(self.day.without(at).having(self.day[at]), self.day)
        self.assertEqual(Day(4).having((0, 4, False)), Day(4, [(0, 4, False)]))
        self.assertEqual(self.day.having((3, 5, True)).meetings[2], (3, 5, True))
        self.assertEqual(self.day.having((10, 11, False)).meetings[3], (10, 11, False))

    def test_having_at_the_ends(self):
        day = Day(6, [(2, 4, False)])
        self.assertEqual(str(day.having((0, 1, False))), "6: 0-1, 2-4")
        self.assertEqual(str(day.having((1, 2, True))), "6: 1-2 private, 2-4")
        self.assertEqual(str(day.having((4, 6, False))), "6: 2-4, 4-6")

    def refuse_having(self, day, meeting):
        with self.assertRaises(InvalidDay) as caught:
            day.having(meeting)
        self.assertEqual(caught.exception.word, "meetings", meeting)

    def test_having_no_meeting(self):
        for thing in things():
            self.refuse_having(Day(9), thing)
        for thing in ((True, 3, False), (1, True, False), (1, 2, 0), [1, 2, False], (1, 2), (3, 3, True),
                      (-1, 2, True)):
            self.refuse_having(Day(9), thing)

    def test_having_where_none_can_stand(self):
        day = Day(9, [(2, 4, False), (5, 7, True)])
        for meeting in ((8, 10, False), (2, 4, False), (2, 4, True), (0, 3, False), (3, 5, False), (4, 6, True),
                        (1, 8, False), (6, 7, True), (2, 3, False), (3, 4, False), (9, 10, False)):
            self.refuse_having(day, meeting)

    def test_having_changes_nothing(self):
        before = str(self.day)
        self.day.without(1)
        self.day.having((8, 9, False))
        self.refuse_having(self.day, (0, 1, False))
        self.miss(9, self.day.without)
        self.assertEqual(str(self.day), before)


class Texts(DayCase):
    def test_text(self):
        self.assertEqual(str(Day(12, [(2, 5, False), (7, 8, True)])), "12: 2-5, 7-8 private")
        self.assertEqual(str(Day(12)), "12: -")
        self.assertEqual(str(Day(1, [(0, 1, True)])), "1: 0-1 private")
        self.assertEqual(str(Day(48, [(0, 10, True), (10, 11, False), (40, 48, True)])),
                         "48: 0-10 private, 10-11, 40-48 private")

    def test_read(self):
        day = Day.read("12: 2-5, 7-8 private")
        self.assertEqual((day.length, day.meetings), (12, ((2, 5, False), (7, 8, True))))
        self.assertIs(type(day), Day)
        self.assertIs(type(day.meetings), tuple)
        self.assertEqual(Day.read("1: -").meetings, ())
        self.assertEqual(Day.read("12: 1-2, 4-6 private, 9-10"), Day(12, [(1, 2, False), (4, 6, True), (9, 10, False)]))

    def test_read_what_is_told(self):
        for day in (Day(1), Day(1, [(0, 1, False)]), Day(48, [(0, 9, True), (9, 10, True), (10, 48, False)]), Day(99)):
            self.assertEqual(Day.read(str(day)), day)
            self.assertEqual(str(Day.read(str(day))), str(day))

    def test_long_text(self):
        day = Day(48, [(tick, tick + 1, True) for tick in range(48)])
        self.assertGreater(len(str(day)), 400)
        self.assertEqual(Day.read(str(day)), day)

    def test_no_string(self):
        for thing in without_kinds(str):
            self.refuse_text(thing)
        self.refuse_text(["12: -"])

    def refuse_text(self, text):
        with self.assertRaises(InvalidText) as caught:
            Day.read(text)
        self.assertEqual(caught.exception.at, 0, text)

    def test_wrong_forms(self):
        for text in ("", "-", "12", "12:", "12: ", "12:-", "12 : -", ": -", ": 2-5", " 12: -", "12: - ", "12:  -",
                     "12: -\n", "\n12: -", "12: --", "12: -, -", "12: 2-5,", "12: 2-5, ", "12: , 2-5", "12: 2-5,7-8",
                     "12: 2-5,  7-8", "12: 2-5 , 7-8", "12: 2-5 7-8", "12: 2-5, -", "12: -, 2-5", "12: 2 - 5",
                     "12: 2-", "12: -5", "12: 2", "12: 2--5", "12: 2-5-7", "12: +2-5", "12: 2-+5", "-12: -", "+12: -",
                     "12: 12: -", "12: 2-5: ", "12: -: -", "1_2: -", "12: 2-1_1", "a: -", "12: a-b", "0x1: -",
                     "12: 2.0-5", "1 2: -", "12; 2-5", "12: (2-5)", "12: 2-5\n", "12: 2-5;7-8"):
            self.refuse_text(text)

    def test_wrong_private(self):
        for text in ("12: 2-5 busy", "12: 2-5 Private", "12: 2-5  private", "12: 2-5 private ", "12: 2-5private",
                     "12: 2-5 private private", "12: private", "12:  private", "12: - private", "12: private 2-5",
                     "12: 2-5 privat", "12: 2-5 private7-8", "12: 2 private-5"):
            self.refuse_text(text)

    def test_digits(self):
        self.assertEqual(Day.read("10: 0-1, 9-10").meetings, ((0, 1, False), (9, 10, False)))
        self.assertEqual(Day.read("99: 98-99 private").meetings, ((98, 99, True),))
        for text in ("012: -", "00: -", "01: -", "100: -", "12: 02-5", "12: 2-05", "12: 00-5", "100: 2-5", "12: 2-100",
                     "12: 100-101", "12: 0-010", "\u0661\u0662: -", "\u00b2: -", "12: 2-\uff15"):
            self.refuse_text(text)

    def refuse_day(self, text, word):
        with self.assertRaises(InvalidDay) as caught:
            Day.read(text)
        self.assertEqual(caught.exception.word, word, text)

    def test_text_of_no_day(self):
        self.refuse_day("0: -", "length")
        self.refuse_day("0: 5-2", "length")
        for text in ("12: 5-2", "12: 2-2", "12: 0-0", "12: 2-13", "12: 13-14", "12: 2-5, 4-6", "12: 7-8, 2-5",
                     "12: 2-5, 2-5", "12: 2-5 private, 2-5", "1: 0-2", "9: 0-99"):
            self.refuse_day(text, "meetings")

    def test_form_goes_first(self):
        for text in ("0: ", "0: 2", "0: 05-6", "12: 5-2, 3", "12: 5-2 busy", "00: 5-2", "12: 2-13, 014-15"):
            self.refuse_text(text)


class Equality(unittest.TestCase):
    def test_equal(self):
        self.assertEqual(Day(12), Day(12, []))
        self.assertEqual(Day(12, [(2, 5, False)]), Day(12, ((2, 5, False),)))
        self.assertFalse(Day(12, [(2, 5, False)]) != Day.read("12: 2-5"))

    def test_unequal(self):
        days = [Day(12), Day(11), Day(12, [(2, 5, False)]), Day(12, [(2, 5, True)]), Day(12, [(2, 6, False)]),
                Day(12, [(3, 5, False)]), Day(12, [(2, 5, False), (5, 6, False)]), Day(13, [(2, 5, False)])]
        for k, day in enumerate(days):
            for other in days[k + 1:]:
                self.assertTrue(day != other)
                self.assertFalse(day == other)

    def test_another_class(self):
        day = Day(12, [(2, 5, False)])
        for thing in ("12: 2-5", 12, 1, ((2, 5, False),), [(2, 5, False)], (12, ((2, 5, False),)), None, Rule(), True):
            self.assertIs(day == thing, False)
            self.assertIs(thing == day, False)
            self.assertIs(day != thing, True)


if __name__ == "__main__":
    unittest.main()
