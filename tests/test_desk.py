"""Points 24 and 25: desks, what their commands tell, and which are none; and the limits of point 3."""

import random
import unittest

from brute import some_day, some_rule
from dimdays.desk import Desk
from dimdays.errors import InvalidCommand, InvalidFrame, InvalidSlot, InvalidText
from dimdays.frames import Frame
from dimdays.knowing import many_days
from dimdays.live import Live
from dimdays.meetings import fewest, greatest
from dimdays.rules import Rule
from dimdays.showing import show, view_text
from dimdays.sure import slot, sure
from samples import things

FRAME = "frame length 8 shortest 2"
LOOK = "look step 2 gap 0 least 0 private busy : 2-6 busy"
NOTHING = "look step 2 gap 0 least 0 private busy : 1-6 busy"
OTHERS = ("look step 2 gap 0 least 0 private busy : -", "know 0 taken", "know 0 free", "free", "taken", "slot 0 1",
          "meetings", "undo")


class Base(unittest.TestCase):
    def begun(self, *commands):
        desk = Desk()
        for command in (FRAME,) + commands:
            desk.say(command)
        return desk

    def state(self, desk):
        live = desk.live
        return live, live and (live.frame, live.looks, len(live))

    def refuse(self, desk, command, error=InvalidCommand):
        """Hold that a command raises an error and that the desk stays as it was; return the error."""
        before = self.state(desk)
        with self.assertRaises(error, msg=repr(command)) as caught:
            desk.say(command)
        self.assertIs(type(caught.exception), error)
        after = self.state(desk)
        self.assertIs(after[0], before[0])
        self.assertEqual(after[1], before[1])
        return caught.exception


class Ordinary(Base):
    def test_example(self):
        desk = Desk()
        self.assertEqual([desk.say(word) for word in (
            FRAME, LOOK, "taken", "slot 2 3", "meetings", "know 2 free", "undo")],
            ["128", "5", "3 4", "sometimes", "1 2", "2", "undone"])

    def test_at_first(self):
        self.assertIsNone(Desk().live)

    def test_frame(self):
        desk = Desk()
        for text in ("length 8 shortest 2", "length 3 shortest 1 most 2", "length 3 shortest 1 private",
                     "length 4 shortest 2 most 9 private taken 1 free 3 taken 1", "length 3 shortest 1 taken 1 free 1"):
            self.assertEqual(desk.say("frame " + text), str(many_days(Frame.read(text), ())))
            self.assertIs(type(desk.live), Live)
            self.assertEqual(desk.live.frame, Frame.read(text))
            self.assertEqual((desk.live.looks, len(desk.live)), ((), 0))

    def test_a_second_frame(self):
        desk = self.begun(LOOK, "know 2 free")
        first = desk.live
        self.assertEqual(desk.say("frame length 2 shortest 1"), "5")
        self.assertIsNot(desk.live, first)
        self.assertEqual((str(desk.live.frame), desk.live.looks, len(desk.live)), ("length 2 shortest 1", (), 0))
        self.assertEqual(desk.say("undo"), "nothing")
        self.assertEqual((len(first), first.looks), (2, ((Rule(2), ((2, 6, "busy"),)),)))
        same = desk.live
        self.assertEqual(desk.say("frame length 2 shortest 1"), "5")
        self.assertIsNot(desk.live, same)

    def test_look(self):
        desk = self.begun()
        self.assertEqual(desk.say(LOOK), "5")
        self.assertEqual(desk.live.looks, ((Rule(2), ((2, 6, "busy"),)),))
        self.assertEqual(desk.say("look step 3 gap 1 least 2 private one hours 1-5 : 1-5 busy"), "3")
        self.assertEqual(desk.live.looks[1], (Rule(3, 1, 2, "one", (1, 5)), ((1, 5, "busy"),)))
        self.assertEqual(desk.say("look step 1 gap 0 least 0 private busy : -"), "0")
        self.assertEqual(desk.say("look step 1 gap 0 least 0 private apart : 0-2 busy, 4-6 private"), "0")
        self.assertEqual(desk.live.looks[3][1], ((0, 2, "busy"), (4, 6, "private")))
        self.assertEqual(len(desk.live), 4)

    def test_know(self):
        desk = self.begun(LOOK)
        self.assertEqual(desk.say("know 2 taken"), "3")
        self.assertEqual(desk.live.frame, Frame(8, 2, known=[(2, True)]))
        self.assertEqual(desk.say("know 5 free"), "1")
        self.assertEqual(desk.live.frame, Frame(8, 2, known=[(2, True), (5, False)]))
        self.assertEqual(desk.say("know 5 taken"), "0")

    def test_free_and_taken(self):
        desk = self.begun()
        self.assertEqual((desk.say("free"), desk.say("taken")), ("-", "-"))
        desk.say(LOOK)
        self.assertEqual((desk.say("free"), desk.say("taken")), ("0 1 6 7", "3 4"))
        desk.say("know 2 free")
        self.assertEqual((desk.say("free"), desk.say("taken")), ("0 1 2 6 7", "3 4"))
        desk.say(NOTHING)
        self.assertEqual((desk.say("free"), desk.say("taken")), ("none", "none"))
        desk.say("frame length 12 shortest 1 most 0")
        self.assertEqual((desk.say("free"), desk.say("taken")), ("0 1 2 3 4 5 6 7 8 9 10 11", "-"))
        desk.say("frame length 1 shortest 1 taken 0")
        self.assertEqual((desk.say("free"), desk.say("taken")), ("-", "0"))

    def test_slot(self):
        desk = self.begun(LOOK)
        for command, wanted in (("slot 2 3", "sometimes"), ("slot 0 2", "always"), ("slot 3 4", "never"),
                                ("slot 0 8", "never"), ("slot 7 8", "always")):
            self.assertEqual(desk.say(command), wanted)
        desk.say(NOTHING)
        self.assertEqual(desk.say("slot 0 1"), "none")

    def test_meetings(self):
        desk = self.begun()
        self.assertEqual(desk.say("meetings"), "0 4")
        desk.say(LOOK)
        self.assertEqual(desk.say("meetings"), "1 2")
        desk.say(NOTHING)
        self.assertEqual(desk.say("meetings"), "none")
        desk.say("frame length 8 shortest 1 most 0")
        self.assertEqual(desk.say("meetings"), "0 0")
        desk.say("frame length 12 shortest 1")
        self.assertEqual(desk.say("meetings"), "0 12")

    def test_undo(self):
        desk = self.begun()
        self.assertEqual(desk.say("undo"), "nothing")
        desk.say(LOOK)
        desk.say("know 2 free")
        live = desk.live
        self.assertEqual([desk.say("undo") for _ in range(4)], ["undone", "undone", "nothing", "nothing"])
        self.assertIs(desk.live, live)
        self.assertEqual((str(live.frame), live.looks, len(live)), ("length 8 shortest 2", (), 0))

    def test_the_live_thing_may_be_used(self):
        desk = self.begun()
        desk.live.look(Rule(2), ((2, 6, "busy"),))
        self.assertEqual(desk.say("taken"), "3 4")
        desk.live.several([])
        self.assertEqual([desk.say("undo") for _ in range(3)], ["undone", "undone", "nothing"])

    def test_desks_share_nothing(self):
        one, other = self.begun(LOOK), Desk()
        self.assertIsNone(other.live)
        other.say(FRAME)
        self.assertEqual(other.live.looks, ())
        self.assertEqual(one.say(command="taken"), "3 4")


class NoCommands(Base):
    def test_any_values(self):
        for desk in (Desk(), self.begun(LOOK)):
            for thing in things():
                self.refuse(desk, thing)
            for thing in ([FRAME], (FRAME,), FRAME.encode(), desk, None, [["free"]]):
                self.refuse(desk, thing)

    def test_ahead_of_the_first_frame(self):
        desk = Desk()
        for command in OTHERS:
            self.refuse(desk, command)
        # Whatever would be wrong with them then.
        for command in ("look a : b", "know 99 taken", "slot 9 9", "slot 5 3", "look step 1 : -"):
            self.refuse(desk, command)
        self.refuse(desk, "frame length 0 shortest 1", InvalidFrame)
        self.refuse(desk, "frame x", InvalidText)
        self.refuse(desk, "free")
        self.assertEqual(desk.say(FRAME), "128")
        for command in OTHERS:
            self.assertIs(type(desk.say(command)), str)

    def test_line_feeds_and_empty_words(self):
        for desk in (Desk(), self.begun(LOOK)):
            for command in (FRAME, LOOK) + OTHERS:
                for wrong in (command + "\n", "\n" + command, command.replace(" ", "\n"), " " + command, command + " ",
                              command.replace(" ", "  "), command + "  ", command[:4] + "\n" + command[4:]):
                    if wrong != command:
                        self.refuse(desk, wrong)
            for wrong in ("", " ", "  ", "\n", "frame", "frame ", "frame  ", " frame"):
                self.refuse(desk, wrong)

    def test_a_word_more_or_less(self):
        desk = self.begun(LOOK)
        for command in ("free", "taken", "meetings", "undo", "slot 0 1", "know 0 taken", "know 0 free"):
            self.refuse(desk, command + " x")
            self.refuse(desk, command + " 1")
            self.refuse(desk, command + " " + command)
            self.refuse(desk, "x " + command)
            self.refuse(desk, " ".join(command.split(" ")[:-1]))
        for command in ("look", "know", "slot", "know 1", "slot 1", "frame", "know taken", "know taken 1"):
            self.refuse(desk, command)

    def test_other_words(self):
        desk = self.begun(LOOK)
        for command in ("Free", "FREE", "busy", "frames length 2 shortest 1", "look", "know 0 busy", "know 0 Taken",
                        "know 0 private", "redo", "-", ":", "free.", "slot", "length 2 shortest 1", "undo\t", "free\r",
                        "looks step 1 gap 0 least 0 private busy : -", "sure", "none", "__init__"):
            self.refuse(desk, command)

    def test_numbers(self):
        desk = self.begun(LOOK)
        for word in ("00", "01", "007", "100", "123", "+1", "-1", "1.0", "x", "\u0661", "\u00b2", "1_0", "0x1", "1,"):
            self.refuse(desk, f"know {word} taken")
            self.refuse(desk, f"know {word} free")
            self.refuse(desk, f"slot {word} 8")
            self.refuse(desk, f"slot 0 {word}")
        self.assertEqual(desk.say("slot 0 1"), "always")

    def test_partings(self):
        desk = self.begun()
        rule = "step 2 gap 0 least 0 private busy"
        for command in (f"look {rule}", f"look {rule} 2-6 busy", f"look {rule} :", f"look : {rule}", "look : 2-6 busy",
                        "look :", f"look {rule}: 2-6 busy", f"look {rule} :2-6 busy", f"look {rule}:2-6 busy",
                        f"look {rule} ::", f"look {rule} :: 2-6 busy", "look : : :", f"look : {rule} : 2-6 busy"):
            self.refuse(desk, command)
        # The first one that is a word of its own parts the texts.
        for command in (f"look {rule} : 2-6 busy :", f"look {rule} : :", f"look {rule} : : 2-6 busy",
                        f"look {rule} : 2-6 busy : 2-6 busy", f"look a: b : -", f"look {rule}: : 2-6 busy",
                        f"look {rule} : 2-6:busy"):
            self.refuse(desk, command, InvalidText)
        self.assertEqual(desk.say(f"look {rule} : 2-6 busy"), "5")


class LaterErrors(Base):
    def test_of_frames(self):
        for desk in (Desk(), self.begun(LOOK)):
            for text in ("x", "length 8", "length 8 shortest", "length 8 shortest 2 x", "length 08 shortest 2",
                         "length 100 shortest 2", "length 8 shortest 2 most", "length 8 shortest 2 taken x", ":", "-"):
                self.assertEqual(self.refuse(desk, "frame " + text, InvalidText).at, 0)
            for text, word in (("length 0 shortest 2", "length"), ("length 8 shortest 0", "shortest"),
                               ("length 8 shortest 2 taken 8", "known"), ("length 0 shortest 0 taken 9", "length")):
                self.assertEqual(self.refuse(desk, "frame " + text, InvalidFrame).word, word)

    def test_of_rules_then_of_views(self):
        desk = self.begun(LOOK)
        from dimdays.errors import InvalidRule
        for text, error in (("x", InvalidText), ("step 2", InvalidText), ("step 2 gap 0 least 0 private all",
                                                                         InvalidText),
                            ("step 0 gap 0 least 0 private busy", InvalidRule),
                            ("step 1 gap 0 least 0 private busy hours 5-5", InvalidRule)):
            for view in ("-", "x", "6-2 busy"):
                self.refuse(desk, f"look {text} : {view}", error)
        self.assertEqual(self.refuse(desk, "look step 0 gap 0 least 0 private one : x", InvalidRule).word, "step")
        for view in ("x", "6-2 busy", "2-6", "2-6 free", "2-6 busy,4-8 busy", "4-8 busy, 2-6 busy", "02-6 busy",
                     "- -", "2-6 busy, 2-6 busy"):
            self.assertEqual(self.refuse(desk, f"look step 2 gap 0 least 0 private busy : {view}", InvalidText).at, 0)

    def test_of_the_live_thing(self):
        desk = self.begun(LOOK)
        for tick in (8, 9, 99):
            for word in ("taken", "free"):
                self.assertEqual(self.refuse(desk, f"know {tick} {word}", InvalidFrame).word, "known")

    def test_of_slots(self):
        for desk in (self.begun(LOOK), self.begun(NOTHING)):
            for words in ("0 0", "3 2", "0 9", "8 8", "8 9", "99 99", "0 99"):
                self.refuse(desk, "slot " + words, InvalidSlot)


class Agree(Base):
    def test_with_what_it_keeps(self):
        rng = random.Random(24)
        for seed in range(12):
            private = seed % 2 == 0
            day = some_day(rng, 10, 1, private)
            frame = Frame(10, 1, rng.choice([None, 4, 10]), private)
            desk, looks = Desk(), ()
            self.assertEqual(desk.say(f"frame {frame}"), str(many_days(frame, ())))
            for _ in range(5):
                rule = some_rule(rng, 4, 12)
                look = (rule, show(rule, day if rng.random() < 0.9 else some_day(rng, 10, 1, private)))
                looks += (look,)
                self.assertEqual(desk.say(f"look {rule} : {view_text(look[1])}"), str(many_days(frame, looks)))
                told = sure(frame, looks)
                for word, at in (("free", 0), ("taken", 1)):
                    text = "none" if told is None else " ".join(map(str, told[at])) or "-"
                    self.assertEqual(desk.say(word), text)
                begin = rng.randrange(10)
                end = rng.randint(begin + 1, 10)
                self.assertEqual(desk.say(f"slot {begin} {end}"), slot(frame, looks, begin, end) or "none")
                wanted = "none" if told is None else f"{fewest(frame, looks)} {greatest(frame, looks)}"
                self.assertEqual(desk.say("meetings"), wanted)
            self.assertEqual((desk.live.frame, desk.live.looks, len(desk.live)), (frame, looks, 5))

    def test_asking_changes_nothing(self):
        desk = self.begun(LOOK)
        before = self.state(desk)
        first = [desk.say(word) for word in ("free", "taken", "slot 2 3", "meetings")]
        again = [desk.say(word) for word in ("meetings", "slot 2 3", "taken", "free")]
        self.assertEqual(first, again[::-1])
        self.assertEqual(self.state(desk), before)


class Limits(Base):
    def test_forty_deeds(self):
        desk = Desk()
        desk.say("frame length 24 shortest 2 most 16 private")
        rng = random.Random(25)
        day = some_day(rng, 24, 2, True)
        for deed in range(42):
            rule = some_rule(rng, 16, 26)
            told = desk.say(f"look {rule} : {view_text(show(rule, day))}" if deed % 7 else f"know {deed % 24} " + (
                "taken" if deed % 24 in day.taken else "free"))
            self.assertGreaterEqual(int(told), 1)
        self.assertEqual(len(desk.live), 42)
        self.assertEqual([desk.say("undo") for _ in range(43)], ["undone"] * 42 + ["nothing"])

    def test_long_texts(self):
        desk = Desk()
        known = " ".join(f"free {tick}" for tick in list(range(24)) * 3)
        self.assertEqual(desk.say(f"frame length 24 shortest 1 {known}"), "1")
        self.assertEqual(desk.say("frame length 48 shortest 40"), str(many_days(Frame(48, 40), ())))
        view = ", ".join(f"{at}-{at + 1} busy" for at in range(0, 48, 2))
        self.assertEqual(desk.say(f"look step 1 gap 0 least 0 private busy : {view}"), "0")
        self.refuse(desk, "x" * 500)
        self.refuse(desk, "look " + "x " * 200 + ": -", InvalidText)


if __name__ == "__main__":
    unittest.main()
