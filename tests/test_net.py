"""Points 13, 14 and 15: standings, letters, and the layers of the net."""

import random
import unittest

from brute import all_days, meetings_of, plain_fits, plain_layers, plain_standing, rows, some_question
from dimdays.days import Day
from dimdays.frames import Frame
from dimdays.net import after, begun, closes, layers
from dimdays.rules import Rule
from dimdays.showing import show

LETTERS = ("free", "busy", "private", "on")


def read(frame, looks, letters):
    """Return the standing behind letters told as one word each, or None if one of them is not possible."""
    standing = begun(frame, looks)
    for tick, letter in enumerate(letters.split()):
        standing = after(frame, looks, tick, standing, letter)
        if standing is None:
            return None
    return standing


def is_standing(value, looks):
    """Tell whether a value is of just the form of standings."""
    if type(value) is not tuple or len(value) != 4:
        return False
    going, run, many, making = value
    if going not in ("", "busy", "private") or type(run) is not int or type(many) is not int:
        return False
    if type(making) is not tuple or len(making) != len(looks):
        return False
    for pairs in making:
        if type(pairs) is not tuple or len(pairs) != 2:
            return False
        for pair in pairs:
            if type(pair) is not tuple or len(pair) != 2 or type(pair[0]) is not int:
                return False
            block = pair[1]
            if block is not None and (type(block) is not tuple or [type(end) for end in block] != [int, int]):
                return False
    return True


class Standings(unittest.TestCase):
    def test_first(self):
        self.assertEqual(begun(Frame(3), ()), ("", 0, 0, ()))
        nothing = ((0, None), (0, None))
        self.assertEqual(begun(Frame(3, 2, 1, True, [(0, True)]), [(Rule(), ())]), ("", 0, 0, (nothing,)))
        looks = [(Rule(), ((0, 1, "busy"),)), (Rule(private="none"), ()), (Rule(private="one"), ())]
        self.assertEqual(begun(Frame(3), looks), ("", 0, 0, (nothing, nothing, nothing)))

    def test_example(self):
        rule, frame = Rule(step=2), Frame(8, shortest=2)
        looks = [(rule, show(rule, Day(8, [(3, 5, False)])))]
        here = after(frame, looks, 2, begun(frame, looks), "busy")
        self.assertEqual(here, ("busy", 1, 0, (((0, (2, 4)), (0, None)),)))
        self.assertIsNone(after(frame, looks, 3, here, "free"))
        self.assertEqual(after(frame, looks, 3, here, "on"), ("busy", 2, 0, (((0, (2, 4)), (0, None)),)))

    def test_going_and_run(self):
        frame = Frame(9, 3, private=True)
        self.assertEqual([read(frame, (), text)[:3] for text in (
            "free", "busy", "busy on", "busy on on", "busy on on on", "busy on on on free", "busy on on busy",
            "busy on on private", "private", "private on on on", "private on on free free")], [
            ("", 0, 0), ("busy", 1, 0), ("busy", 2, 0), ("busy", 3, 0), ("busy", 3, 0), ("", 0, 0), ("busy", 1, 0),
            ("private", 1, 0), ("private", 1, 0), ("private", 3, 0), ("", 0, 0)])

    def test_run_is_at_most_one_where_all_lengths_are_let(self):
        self.assertEqual(read(Frame(9), (), "busy on on")[:3], ("busy", 1, 0))

    def test_many(self):
        frame = Frame(9, 1, 3, True)
        self.assertEqual([read(frame, (), text)[2] for text in (
            "free", "busy", "busy on", "busy busy", "busy private on free", "busy busy free busy free free")],
            [0, 1, 1, 2, 2, 3])
        self.assertEqual(read(Frame(9), (), "busy busy free busy")[2], 0)

    def test_blocks_are_put_down_and_up(self):
        looks = [(Rule(3), ()), (Rule(1), ()), (Rule(4), ())]
        self.assertEqual(read(Frame(9), looks, "free busy on")[3], (
            ((0, (0, 3)), (0, None)), ((0, (1, 3)), (0, None)), ((0, (0, 4)), (0, None))))
        self.assertEqual(read(Frame(9), looks, "free busy on on on")[3], (
            ((0, (0, 6)), (0, None)), ((0, (1, 5)), (0, None)), ((0, (0, 8)), (0, None))))

    def test_blocks_are_not_cut_while_they_are_made(self):
        looks = [(Rule(2, least=9, hours=(1, 2)), ())]
        self.assertEqual(read(Frame(9), looks, "busy on on")[3], (((0, (0, 4)), (0, None)),))
        self.assertEqual(read(Frame(3), [(Rule(8), ())], "free free busy")[3], (((0, (0, 8)), (0, None)),))

    def test_a_block_stays_open_until_one_of_its_word_begins(self):
        looks = [(Rule(private="apart"), ((0, 1, "busy"), (5, 6, "busy")))]
        frame = Frame(9, private=True)
        self.assertEqual(read(frame, looks, "busy free free free")[3], (((0, (0, 1)), (0, None)),))
        self.assertEqual(read(frame, looks, "busy free free private on")[3], (((0, (0, 1)), (0, (3, 5))),))
        self.assertEqual(read(frame, looks, "busy free free private on busy")[3], (((1, (5, 6)), (0, (3, 5))),))

    def test_behind_does_not_count_what_is_left_out(self):
        looks = [(Rule(least=2), ((2, 4, "busy"),))]
        self.assertEqual(read(Frame(9), looks, "busy free busy on free")[3], (((0, (2, 4)), (0, None)),))
        self.assertEqual(read(Frame(9), looks, "busy free busy on free busy")[3], (((1, (5, 6)), (0, None)),))
        self.assertEqual(read(Frame(9), looks, "busy free busy on free busy free busy")[3],
                         (((1, (7, 8)), (0, None)),))

    def test_words_of_private_meetings(self):
        frame, text = Frame(9, private=True), "private on"
        making = {"busy": ((0, (0, 2)), (0, None)), "none": ((0, None), (0, None)), "apart": ((0, None), (0, (0, 2))),
                  "one": ((0, None), (0, (0, 2)))}
        for private, pairs in making.items():
            self.assertEqual(read(frame, [(Rule(private=private), ())], text), ("private", 1, 0, (pairs,)))

    def test_joined_blocks_go_on(self):
        looks = [(Rule(2, 2), ())]
        self.assertEqual(read(Frame(9), looks, "busy free free free busy")[3], (((0, (0, 6)), (0, None)),))
        self.assertIsNone(read(Frame(9), looks, "busy free free free free free busy"))
        self.assertEqual(read(Frame(9), [(Rule(), ())], "busy busy")[3], (((0, (0, 2)), (0, None)),))
        self.assertIsNone(read(Frame(9), [(Rule(), ())], "busy free busy"))
        self.assertEqual(read(Frame(9), [(Rule(2), ())], "busy free free busy")[3], (((0, (0, 4)), (0, None)),))

    def test_one_block_for_all_private_ones(self):
        frame = Frame(9, private=True)
        text = "private free free free busy free free private"
        self.assertEqual(read(frame, [(Rule(private="one"), ())], text)[3], (((0, (4, 5)), (0, (0, 8))),))
        self.assertIsNone(read(frame, [(Rule(private="apart"), ())], text))


class Letters(unittest.TestCase):
    def test_on_wants_a_meeting(self):
        frame = Frame(5)
        self.assertIsNone(after(frame, (), 0, begun(frame, ()), "on"))
        self.assertIsNone(read(frame, (), "busy free on"))

    def test_the_others_want_a_meeting_that_is_long_enough(self):
        frame = Frame(5, 3, private=True)
        for letter in ("free", "busy", "private"):
            self.assertIsNone(read(frame, (), f"busy {letter}"))
            self.assertIsNone(read(frame, (), f"private on {letter}"))
            self.assertIsNotNone(read(frame, (), f"private on on {letter}"))
            self.assertIsNotNone(read(frame, (), letter))

    def test_private_must_be_let(self):
        self.assertIsNone(read(Frame(5), (), "private"))
        self.assertEqual(read(Frame(5, private=True), (), "private"), ("private", 1, 0, ()))

    def test_not_more_than_most(self):
        frame = Frame(9, 1, 2, True)
        for letter in ("busy", "private"):
            self.assertIsNotNone(read(frame, (), f"busy {letter} on free"))
            self.assertIsNone(read(frame, (), f"busy private {letter}"))
            self.assertIsNone(read(Frame(9, 1, 0, True), (), letter))
        self.assertEqual(read(Frame(9, 1, 0), (), "free free"), ("", 0, 0, ()))

    def test_known_ticks(self):
        frame = Frame(5, private=True, known=[(1, True), (2, False)])
        self.assertIsNone(read(frame, (), "free free"))
        self.assertIsNone(read(frame, (), "busy on on"))
        self.assertIsNone(read(frame, (), "busy on busy"))
        self.assertIsNone(read(frame, (), "busy on private"))
        for text in ("free busy free", "private on free", "busy busy free on", "busy busy free busy"):
            self.assertIs(read(frame, (), text) is None, text.endswith("on"))

    def test_known_ticks_that_contradict_one_another(self):
        frame = Frame(5, private=True, known=[(1, True), (1, False)])
        standing = read(frame, (), "busy")
        self.assertEqual([after(frame, (), 1, standing, letter) for letter in LETTERS], [None] * 4)

    def test_each_look_must_let_it(self):
        right, wrong = (Rule(), ((0, 1, "busy"), (2, 3, "busy"))), (Rule(), ((0, 2, "busy"),))
        for looks in ([right], [right, right]):
            self.assertIsNotNone(read(Frame(5), looks, "busy free busy"))
        for looks in ([wrong], [right, wrong], [wrong, right]):
            self.assertIsNone(read(Frame(5), looks, "busy free busy"))

    def test_a_block_behind_must_be_the_next_one(self):
        looks = [(Rule(), ((0, 1, "busy"), (2, 4, "busy")))]
        self.assertIsNotNone(read(Frame(9), looks, "busy free busy on free busy"))
        self.assertIsNone(read(Frame(9), looks, "busy free busy free busy"))
        self.assertIsNone(read(Frame(9), looks, "free free busy on free busy"))
        self.assertIsNone(read(Frame(9), looks, "busy free busy on free busy free busy"))

    def test_a_block_behind_is_cut_to_the_hours(self):
        looks = [(Rule(least=2, hours=(1, 5)), ((1, 2, "busy"), (4, 5, "busy")))]
        self.assertIsNotNone(read(Frame(9), looks, "busy on free free busy on free busy"))
        self.assertIsNone(read(Frame(9), looks, "free busy free free busy on free busy on"))

    def test_a_wrong_block_is_let_until_it_lies_behind(self):
        looks = [(Rule(), ())]
        self.assertIsNotNone(read(Frame(9), looks, "busy on free free"))
        self.assertIsNone(read(Frame(9), looks, "busy on free free busy"))

    def test_all_rows(self):
        for seed in range(120):
            length, private = 1 + seed % 5, seed % 2 == 0
            frame, looks = some_question(seed, length, private, 3)
            told = rows(length, private)
            for row in random.Random(seed).sample(told, min(40, len(told))):
                standing = begun(frame, looks)
                for tick, letter in enumerate(row):
                    standing = after(frame, looks, tick, standing, letter)
                    self.assertEqual(standing, plain_standing(frame, looks, row[:tick + 1]), (str(frame), looks, row))
                    if standing is None:
                        break
                    self.assertTrue(is_standing(standing, looks))


class Closing(unittest.TestCase):
    def test_run(self):
        frame = Frame(3, 2)
        self.assertIs(closes(frame, (), read(frame, (), "free free busy")), False)
        self.assertIs(closes(frame, (), read(frame, (), "free busy on")), True)
        self.assertIs(closes(frame, (), read(frame, (), "busy on on")), True)
        self.assertIs(closes(frame, (), read(frame, (), "free free free")), True)

    def test_open_blocks(self):
        for view, text, wanted in (
                (((0, 2, "busy"),), "busy on free", True), (((0, 2, "busy"),), "busy on on", False),
                (((0, 2, "busy"),), "busy free free", False), (((0, 2, "busy"),), "free free free", False),
                ((), "free free free", True), ((), "free free busy", False),
                (((0, 1, "busy"), (2, 3, "busy")), "busy free busy", True),
                (((0, 1, "busy"), (2, 3, "busy")), "busy free free", False)):
            looks = [(Rule(), view)]
            self.assertIs(closes(Frame(3), looks, read(Frame(3), looks, text)), wanted, (view, text))

    def test_open_blocks_that_are_left_out(self):
        frame = Frame(4, private=True)
        for rule in (Rule(least=3), Rule(hours=(3, 9)), Rule(private="none")):
            looks = [(rule, ())]
            self.assertIs(closes(frame, looks, read(frame, looks, "free private on free")), True)
        looks = [(Rule(least=2), ())]
        self.assertIs(closes(frame, looks, read(frame, looks, "free private on free")), False)

    def test_both_words_and_all_looks(self):
        frame = Frame(4, private=True)
        one = (Rule(private="apart"), ((0, 2, "private"), (2, 3, "busy")))
        two = (Rule(2), ((0, 4, "busy"),))
        text = "private on busy free"
        for looks, wanted in (([one], True), ([two], True), ([one, two], True), ([one, two, (Rule(), ())], False),
                              ([(Rule(private="apart"), ((2, 3, "busy"),)), two], False),
                              ([two, (Rule(private="apart"), ((0, 2, "private"),))], False)):
            self.assertIs(closes(frame, looks, read(frame, looks, text)), wanted)

    def test_rows_that_close_are_the_days_that_fit(self):
        for seed in range(60):
            length, private = 1 + seed % 5, seed % 2 == 0
            frame, looks = some_question(seed, length, private, 2)
            found = []
            for row in rows(length, private):
                standing = read(frame, looks, " ".join(row))
                if standing is not None and closes(frame, looks, standing):
                    found.append(str(Day(length, meetings_of(row))))
            fitting = plain_fits(frame, looks, all_days(length, private))
            self.assertEqual(sorted(found), sorted(str(day) for day in fitting))


class Layers(unittest.TestCase):
    def test_no_looks(self):
        first, busy = ("", 0, 0, ()), ("busy", 1, 0, ())
        self.assertEqual(layers(Frame(2), ()), ((first,), (first, busy), (first, busy)))
        self.assertEqual(layers(Frame(2, 2), ()), ((first,), (first, busy), (first, ("busy", 2, 0, ()))))
        self.assertEqual(layers(Frame(1, 2), []), ((first,), (first,)))
        self.assertEqual(layers(Frame(2, 1, 0), []), ((first,),) * 3)

    def test_example(self):
        rule, frame = Rule(step=2), Frame(8, shortest=2)
        told = layers(frame, [(rule, ((2, 6, "busy"),))])
        nothing = ("", 0, 0, (((0, None), (0, None)),))
        self.assertEqual(told[:3], ((nothing,),) * 3)
        self.assertEqual(told[3], (nothing, ("busy", 1, 0, (((0, (2, 4)), (0, None)),))))
        self.assertEqual(told[8], (("", 0, 0, (((0, (2, 6)), (0, None)),)),))
        self.assertEqual(len(told), 9)

    def test_nothing_fits(self):
        for frame, looks in ((Frame(3, known=[(0, True), (0, False)]), ()), (Frame(3), [(Rule(), ((0, 9, "busy"),))]),
                             (Frame(3, 4, known=[(1, True)]), [])):
            self.assertEqual(layers(frame, looks), ((), (), (), ()))

    def test_ascending_by_repr(self):
        frame = Frame(24, 1, 16, True)
        told = layers(frame, [(Rule(least=16), ())])
        self.assertGreater(len(told[20]), 100)
        for lot in told:
            texts = [repr(standing) for standing in lot]
            self.assertEqual(texts, sorted(set(texts)))
        self.assertNotEqual(told[20], tuple(sorted(told[20], key=lambda one: one[2])))

    def test_many_counts_where_most_cannot_be_come_up_to(self):
        for most in (2, 3, 99):
            frame = Frame(4, 2, most)
            self.assertEqual(layers(frame, ()), plain_layers(frame, (), all_days(4)))
        self.assertEqual(layers(Frame(4, 2, 99), ())[4][-1], ("busy", 2, 2, ()))

    def test_kinds(self):
        for seed in range(20):
            frame, looks = some_question(seed, 6, True, 3)
            told = layers(frame, looks)
            self.assertIs(type(told), tuple)
            self.assertEqual(len(told), 7)
            for lot in told:
                self.assertIs(type(lot), tuple)
                self.assertTrue(all(is_standing(standing, looks) for standing in lot))

    def test_against_trying_all_days(self):
        days = {(length, private): all_days(length, private) for length in range(1, 7) for private in (True, False)}
        for seed in range(240):
            length, private = 1 + seed % 6, seed // 6 % 2 == 0
            frame, looks = some_question(seed, length, private, 4)
            wanted = plain_layers(frame, looks, days[length, private])
            self.assertEqual(layers(frame, looks), wanted, (str(frame), looks))

    def test_all_standings_lead_on(self):
        frame, looks = some_question(36, 24, True, 4, 16, 26)
        told = layers(frame, looks)
        self.assertEqual(told[0], (begun(frame, looks),))
        for tick in range(24):
            lot, reached = set(told[tick + 1]), set()
            for standing in told[tick]:
                behind = {after(frame, looks, tick, standing, letter) for letter in LETTERS}
                self.assertTrue(behind & lot)
                reached |= behind
            self.assertEqual(lot - reached, set())
        self.assertTrue(all(closes(frame, looks, standing) for standing in told[24]))


if __name__ == "__main__":
    unittest.main()
