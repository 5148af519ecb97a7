"""Point 4: the error classes."""

import unittest

from dimdays import errors
from dimdays.days import Day
from samples import things

WITH_WORD = ["InvalidDay", "InvalidRule", "InvalidFrame"]
WITH_AT = ["InvalidText", "InvalidLooks", "Refused"]
WITHOUT = ["InvalidSlot", "InvalidCommand"]


def made(name):
    return getattr(errors, name)


class Bases(unittest.TestCase):
    def test_base_class(self):
        self.assertEqual(errors.DimError.__bases__, (ValueError,))

    def test_direct_subclasses(self):
        for name in WITH_WORD + WITH_AT + WITHOUT:
            self.assertEqual(made(name).__bases__, (errors.DimError,), name)

    def test_no_meeting(self):
        self.assertEqual(errors.NoMeeting.__bases__, (IndexError,))
        self.assertFalse(issubclass(errors.NoMeeting, ValueError))

    def test_there_are_ten(self):
        names = ["DimError", "NoMeeting"] + WITH_WORD + WITH_AT + WITHOUT
        found = [name for name in vars(errors) if isinstance(made(name), type)]
        self.assertEqual(sorted(found), sorted(names))

    def test_base_class_catches_all_but_one(self):
        for name in WITH_WORD + WITH_AT:
            with self.assertRaises(errors.DimError):
                raise made(name)(0)
        for name in WITHOUT:
            with self.assertRaises(errors.DimError):
                raise made(name)()


class Arguments(unittest.TestCase):
    def check_kept(self, name, parameter):
        for thing in things() + [object(), {"a": 1}, Day]:
            by_position = made(name)(thing)
            by_name = made(name)(**{parameter: thing})
            self.assertIs(getattr(by_position, parameter), thing)
            self.assertIs(getattr(by_name, parameter), thing)

    def test_word(self):
        for name in WITH_WORD:
            self.check_kept(name, "word")

    def test_at(self):
        for name in WITH_AT + ["NoMeeting"]:
            self.check_kept(name, "at")

    def test_no_arguments(self):
        for name in WITHOUT:
            self.assertIsInstance(made(name)(), errors.DimError)

    def test_later_changes_are_seen(self):
        thing = [1]
        error = errors.InvalidDay(thing)
        thing.append(2)
        self.assertEqual(error.word, [1, 2])
        self.assertIs(error.word, thing)

    def test_argument_is_wanted(self):
        for name in WITH_WORD + WITH_AT + ["NoMeeting"]:
            with self.assertRaises(TypeError):
                made(name)()


if __name__ == "__main__":
    unittest.main()
