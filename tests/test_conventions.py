"""Points 1, 2 and 3 for what has landed, and the section on the interface."""

import ast
import inspect
import pathlib
import unittest

from dimdays import days, errors, rules
from dimdays.days import Day
from dimdays.errors import InvalidDay, InvalidRule
from dimdays.rules import Rule, alike

PACKAGE = pathlib.Path(__file__).resolve().parent.parent / "dimdays"

FUNCTIONS = {
    "days.py": {"Day": [
        "__init__", "taken", "without", "having", "read", "__len__", "__getitem__", "__eq__", "__str__"]},
    "rules.py": {"Rule": ["__init__", "normal", "but", "read", "__eq__", "__str__"], "alike": []},
    "errors.py": {name: [] for name in (
        "DimError", "InvalidDay", "InvalidRule", "InvalidFrame", "InvalidText", "InvalidLooks", "InvalidSlot",
        "InvalidCommand", "Refused", "NoMeeting")},
}


def defined(file):
    """Return what a file of the package defines, each class with the names defined in it."""
    found = {}
    for part in ast.parse((PACKAGE / file).read_text()).body:
        if isinstance(part, (ast.FunctionDef, ast.ClassDef)):
            found[part.name] = [inner.name for inner in part.body if isinstance(inner, ast.FunctionDef)] \
                if isinstance(part, ast.ClassDef) else []
    return found


class Interface(unittest.TestCase):
    def test_each_is_defined_in_its_file(self):
        for file, names in FUNCTIONS.items():
            found = defined(file)
            for name, methods in names.items():
                self.assertIn(name, found)
                for method in methods:
                    self.assertIn(method, found[name])

    def test_only_a_docstring(self):
        tree = ast.parse((PACKAGE / "__init__.py").read_text())
        self.assertEqual(len(tree.body), 1)
        self.assertIsNotNone(ast.get_docstring(tree))

    def test_parameters(self):
        wanted = [
            (Day, "(length, meetings=())"), (Day.without, "(self, at)"), (Day.having, "(self, meeting)"),
            (Day.read, "(text)"), (Rule, "(step=1, gap=0, least=0, private='busy', hours=None)"),
            (Rule.but, "(self, **others)"), (Rule.read, "(text)"), (alike, "(p, q)"),
        ]
        for thing, signature in wanted:
            self.assertEqual(str(inspect.signature(thing)), signature)

    def test_kinds_of_members(self):
        self.assertIsInstance(vars(Day)["read"], classmethod)
        self.assertIsInstance(vars(Rule)["read"], classmethod)
        self.assertIsInstance(vars(Day)["taken"], property)
        self.assertIsInstance(vars(Rule)["normal"], property)

    def test_attributes_are_set_at_once(self):
        self.assertEqual(set(vars(Day(3))) >= {"length", "meetings"}, True)
        self.assertEqual(set(vars(Rule())) >= {"step", "gap", "least", "private", "hours"}, True)

    def test_modules(self):
        for module in (days, errors, rules):
            self.assertEqual(pathlib.Path(module.__file__).resolve().parent, PACKAGE)


class Arguments(unittest.TestCase):
    def test_by_name_in_any_order(self):
        self.assertEqual(Day(meetings=[(0, 1, True)], length=3), Day(3, [(0, 1, True)]))
        self.assertEqual(Rule(hours=(1, 2), private="one", least=3, gap=4, step=5), Rule(5, 4, 3, "one", (1, 2)))
        day = Day(3, [(0, 1, True)])
        self.assertEqual(day.without(at=0), Day(3))
        self.assertEqual(day.having(meeting=(1, 3, False)), Day(3, ((0, 1, True), (1, 3, False))))
        self.assertEqual(Day.read(text="3: 0-1 private"), day)
        self.assertEqual(Rule.read(text="step 1 gap 0 least 0 private busy"), Rule())
        self.assertIs(alike(q=Rule(2), p=Rule(3)), False)
        self.assertIs(alike(q=Rule(3, 1), p=Rule(3)), True)

    def test_true_and_false_are_no_integers(self):
        for wrong in (True, False):
            for call, error in ((lambda: Day(wrong), InvalidDay), (lambda: Day(3, [(wrong, 2, True)]), InvalidDay),
                                (lambda: Day(3, [(0, wrong, True)]), InvalidDay), (lambda: Rule(wrong), InvalidRule),
                                (lambda: Rule(gap=wrong), InvalidRule), (lambda: Rule(least=wrong), InvalidRule),
                                (lambda: Rule(hours=(wrong, 2)), InvalidRule)):
                self.assertRaises(error, call)

    def test_zero_and_one_are_no_bools(self):
        for wrong in (0, 1):
            with self.assertRaises(InvalidDay):
                Day(3, [(0, 1, wrong)])

    def test_lists_and_tuples_as_sequences(self):
        for meetings in ([(0, 1, True), (1, 2, False)], ((0, 1, True), (1, 2, False))):
            self.assertEqual(Day(3, meetings).meetings, ((0, 1, True), (1, 2, False)))

    def test_later_changes_have_no_effect(self):
        meetings = [(0, 1, True)]
        day = Day(3, meetings)
        meetings.append((1, 2, False))
        meetings[0] = None
        self.assertEqual(day.meetings, ((0, 1, True),))
        self.assertEqual(str(day), "3: 0-1 private")

    def test_arguments_stay_as_they_are(self):
        meetings = [(0, 1, True), (2, 3, False)]
        day = Day(3, meetings)
        day.having((1, 2, True))
        day.without(0)
        self.assertEqual(meetings, [(0, 1, True), (2, 3, False)])
        others = {"step": 3}
        Rule().but(**others)
        self.assertEqual(others, {"step": 3})


class Objects(unittest.TestCase):
    def test_same_call_equal_result(self):
        day, rule = Day(5, [(0, 2, False), (3, 4, True)]), Rule(3, 4, 5, "one", (1, 9))
        calls = [lambda: day.taken, lambda: day.without(1), lambda: day.having((4, 5, True)), lambda: str(day),
                 lambda: day[1], lambda: len(day), lambda: rule.normal, lambda: rule.but(gap=1), lambda: str(rule),
                 lambda: alike(rule, rule.normal), lambda: Day.read("5: 1-2"), lambda: Day(5), lambda: Rule()]
        first = [call() for call in calls]
        again = [call() for call in reversed(calls)]
        self.assertEqual(first, again[::-1])

    def test_not_iterable(self):
        for thing in (Day(3), Day(3, [(0, 1, True), (1, 2, False)]), Rule(), Rule(hours=(1, 2)), InvalidDay("length")):
            with self.assertRaises(TypeError):
                iter(thing)
            with self.assertRaises(TypeError):
                list(thing)
            with self.assertRaises(TypeError):
                first, second = thing
            with self.assertRaises(TypeError):
                for part in thing:
                    self.fail(part)

    def test_nothing_in_them(self):
        for thing in (Day(3, [(0, 1, True)]), Rule()):
            with self.assertRaises(TypeError):
                (0, 1, True) in thing


if __name__ == "__main__":
    unittest.main()
