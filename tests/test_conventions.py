"""Points 1, 2 and 3 for what has landed, and the section on the interface."""

import ast
import inspect
import pathlib
import unittest

from dimdays import comparing, days, errors, frames, knowing, meetings, net, papers, rules, showing, sure
from dimdays.comparing import finer, parting, views
from dimdays.days import Day
from dimdays.errors import InvalidDay, InvalidFrame, InvalidLooks, InvalidRule
from dimdays.frames import Frame
from dimdays.knowing import a_day, fits, is_fit, many_days
from dimdays.meetings import begins, can_be, ends, fewest, greatest, shared
from dimdays.net import after, begun, closes, layers
from dimdays.papers import paper, paper_holds
from dimdays.rules import Rule, alike
from dimdays.showing import is_view, read_view, show, view_text
from dimdays.sure import best_slots, free_days, slot

PACKAGE = pathlib.Path(__file__).resolve().parent.parent / "dimdays"

FUNCTIONS = {
    "days.py": {"Day": [
        "__init__", "taken", "without", "having", "read", "__len__", "__getitem__", "__eq__", "__str__"]},
    "rules.py": {"Rule": ["__init__", "normal", "but", "read", "__eq__", "__str__"], "alike": []},
    "errors.py": {name: [] for name in (
        "DimError", "InvalidDay", "InvalidRule", "InvalidFrame", "InvalidText", "InvalidLooks", "InvalidSlot",
        "InvalidCommand", "Refused", "NoMeeting")},
    "showing.py": {name: [] for name in ("show", "is_view", "view_text", "read_view")},
    "frames.py": {"Frame": ["__init__", "knowing", "lets", "read", "__eq__", "__str__"]},
    "net.py": {name: [] for name in ("begun", "after", "closes", "layers")},
    "knowing.py": {name: [] for name in ("is_fit", "fits", "a_day", "many_days")},
    "sure.py": {name: [] for name in ("sure", "slot", "free_days", "best_slots")},
    "meetings.py": {name: [] for name in ("fewest", "greatest", "begins", "ends", "can_be", "shared")},
    "papers.py": {name: [] for name in ("paper", "paper_holds")},
    "comparing.py": {name: [] for name in ("views", "finer", "parting")},
}


def defined(file):
    """Return what a file of the package defines, each class with the names defined in it."""
    found = {}
    for part in ast.parse((PACKAGE / file).read_text()).body:
        if isinstance(part, (ast.FunctionDef, ast.ClassDef)):
            found[part.name] = [inner.name for inner in part.body if isinstance(inner, ast.FunctionDef)] \
                if isinstance(part, ast.ClassDef) else []
    return found


class Interface(unittest.TestCase):
    def test_each_is_defined_in_its_file(self):
        for file, names in FUNCTIONS.items():
            found = defined(file)
            for name, methods in names.items():
                self.assertIn(name, found)
                for method in methods:
                    self.assertIn(method, found[name])

    def test_only_a_docstring(self):
        tree = ast.parse((PACKAGE / "__init__.py").read_text())
        self.assertEqual(len(tree.body), 1)
        self.assertIsNotNone(ast.get_docstring(tree))

    def test_parameters(self):
        wanted = [
            (Day, "(length, meetings=())"), (Day.without, "(self, at)"), (Day.having, "(self, meeting)"),
            (Day.read, "(text)"), (Rule, "(step=1, gap=0, least=0, private='busy', hours=None)"),
            (Rule.but, "(self, **others)"), (Rule.read, "(text)"), (alike, "(p, q)"),
            (show, "(rule, day)"), (is_view, "(value)"), (view_text, "(view)"), (read_view, "(text)"),
            (Frame, "(length, shortest=1, most=None, private=False, known=())"),
            (Frame.knowing, "(self, tick, is_taken)"), (Frame.lets, "(self, day)"), (Frame.read, "(text)"),
            (begun, "(frame, looks)"), (after, "(frame, looks, tick, standing, letter)"),
            (closes, "(frame, looks, standing)"), (layers, "(frame, looks)"), (is_fit, "(frame, looks, day)"),
            (fits, "(frame, looks)"), (a_day, "(frame, looks)"), (many_days, "(frame, looks)"),
            (sure.sure, "(frame, looks)"), (slot, "(frame, looks, begin, end)"),
            (free_days, "(frame, looks, begin, end)"), (best_slots, "(frame, looks, size)"),
            (fewest, "(frame, looks)"), (greatest, "(frame, looks)"), (begins, "(frame, looks)"),
            (ends, "(frame, looks)"), (can_be, "(frame, looks)"), (shared, "(several)"),
            (paper, "(frame, looks, tick, is_taken)"), (paper_holds, "(frame, looks, tick, is_taken, value)"),
            (views, "(frame, rule)"), (finer, "(frame, p, q)"), (parting, "(frame, p, q)"),
        ]
        for thing, signature in wanted:
            self.assertEqual(str(inspect.signature(thing)), signature)

    def test_kinds_of_members(self):
        self.assertIsInstance(vars(Day)["read"], classmethod)
        self.assertIsInstance(vars(Rule)["read"], classmethod)
        self.assertIsInstance(vars(Frame)["read"], classmethod)
        self.assertIsInstance(vars(Day)["taken"], property)
        self.assertIsInstance(vars(Rule)["normal"], property)

    def test_attributes_are_set_at_once(self):
        self.assertEqual(set(vars(Day(3))) >= {"length", "meetings"}, True)
        self.assertEqual(set(vars(Rule())) >= {"step", "gap", "least", "private", "hours"}, True)
        self.assertEqual(set(vars(Frame(3))) >= {"length", "shortest", "most", "private", "known"}, True)

    def test_modules(self):
        for module in (comparing, days, errors, frames, knowing, meetings, net, papers, rules, showing, sure):
            self.assertEqual(pathlib.Path(module.__file__).resolve().parent, PACKAGE)


class Arguments(unittest.TestCase):
    def test_by_name_in_any_order(self):
        self.assertEqual(Day(meetings=[(0, 1, True)], length=3), Day(3, [(0, 1, True)]))
        self.assertEqual(Rule(hours=(1, 2), private="one", least=3, gap=4, step=5), Rule(5, 4, 3, "one", (1, 2)))
        day = Day(3, [(0, 1, True)])
        self.assertEqual(day.without(at=0), Day(3))
        self.assertEqual(day.having(meeting=(1, 3, False)), Day(3, ((0, 1, True), (1, 3, False))))
        self.assertEqual(Day.read(text="3: 0-1 private"), day)
        self.assertEqual(Rule.read(text="step 1 gap 0 least 0 private busy"), Rule())
        self.assertIs(alike(q=Rule(2), p=Rule(3)), False)
        self.assertIs(alike(q=Rule(3, 1), p=Rule(3)), True)

    def test_by_name_in_any_order_for_frames_and_views(self):
        frame = Frame(known=[(0, True)], private=True, most=2, shortest=1, length=3)
        self.assertEqual(frame, Frame(3, 1, 2, True, [(0, True)]))
        self.assertEqual(Frame(3).knowing(is_taken=True, tick=1), Frame(3, known=[(1, True)]))
        self.assertIs(frame.lets(day=Day(3)), False)
        self.assertEqual(Frame.read(text="length 3 shortest 1"), Frame(3))
        view = show(day=Day(3, [(0, 1, True)]), rule=Rule())
        self.assertEqual(view, ((0, 1, "busy"),))
        self.assertIs(is_view(value=view), True)
        self.assertEqual(view_text(view=view), "0-1 busy")
        self.assertEqual(read_view(text="0-1 busy"), view)

    def test_by_name_in_any_order_for_looks(self):
        frame, looks = Frame(3), [(Rule(), ((0, 1, "busy"),))]
        standing = begun(looks=looks, frame=frame)
        behind = after(letter="busy", standing=standing, tick=0, looks=looks, frame=frame)
        self.assertEqual(behind, ("busy", 1, 0, (((0, (0, 1)), (0, None)),)))
        self.assertIs(closes(standing=behind, looks=looks, frame=frame), True)
        self.assertEqual(layers(looks=looks, frame=frame)[1], (behind,))
        self.assertIs(is_fit(day=Day(3), looks=looks, frame=frame), False)
        self.assertIs(fits(looks=looks, frame=frame), True)
        self.assertEqual(a_day(looks=looks, frame=frame), Day(3, [(0, 1, False)]))
        self.assertEqual(many_days(looks=looks, frame=frame), 1)

    def test_by_name_in_any_order_for_what_is_known(self):
        frame, looks = Frame(3), [(Rule(), ((0, 1, "busy"),))]
        self.assertEqual(sure.sure(looks=looks, frame=frame), ((1, 2), (0,)))
        self.assertEqual(slot(end=1, begin=0, looks=looks, frame=frame), "never")
        self.assertEqual(free_days(end=3, begin=1, looks=looks, frame=frame), 1)
        self.assertEqual(best_slots(size=1, looks=looks, frame=frame), (1, 2))
        for call, wanted in ((fewest, 1), (greatest, 1), (begins, ((0,), (0,))), (ends, ((1,), (1,))),
                             (can_be, ((0, 1, False),))):
            self.assertEqual(call(looks=looks, frame=frame), wanted)
        self.assertEqual(shared(several=[(frame, looks)]), ((0, 1),))
        told = paper(is_taken=False, tick=2, looks=looks, frame=frame)
        self.assertIs(paper_holds(value=told, is_taken=False, tick=2, looks=looks, frame=frame), True)
        self.assertEqual(views(rule=Rule(4), frame=frame), (((), 1), (((0, 4, "busy"),), 12)))
        self.assertIs(finer(q=Rule(4), p=Rule(2), frame=frame), True)
        self.assertEqual(len(parting(q=Rule(2), p=Rule(4), frame=frame)), 2)

    def test_true_and_false_are_no_integers(self):
        for wrong in (True, False):
            for call, error in ((lambda: Day(wrong), InvalidDay), (lambda: Day(3, [(wrong, 2, True)]), InvalidDay),
                                (lambda: Day(3, [(0, wrong, True)]), InvalidDay), (lambda: Rule(wrong), InvalidRule),
                                (lambda: Rule(gap=wrong), InvalidRule), (lambda: Rule(least=wrong), InvalidRule),
                                (lambda: Rule(hours=(wrong, 2)), InvalidRule), (lambda: Frame(wrong), InvalidFrame),
                                (lambda: Frame(3, wrong), InvalidFrame), (lambda: Frame(3, 1, wrong), InvalidFrame),
                                (lambda: Frame(3, known=[(wrong, True)]), InvalidFrame),
                                (lambda: Frame(3).knowing(wrong, True), InvalidFrame),
                                (lambda: fits(Frame(3), [(Rule(), ((wrong, 2, "busy"),))]), InvalidLooks),
                                (lambda: fits(Frame(3), [(Rule(), ((0, wrong, "busy"),))]), InvalidLooks)):
                self.assertRaises(error, call)
            self.assertIs(is_view(((wrong, 2, "busy"),)), False)
            self.assertIs(is_view(((0, wrong, "busy"),)), False)

    def test_zero_and_one_are_no_bools(self):
        for wrong in (0, 1):
            with self.assertRaises(InvalidDay):
                Day(3, [(0, 1, wrong)])
            for call in (lambda: Frame(3, private=wrong), lambda: Frame(3, known=[(0, wrong)]),
                         lambda: Frame(3).knowing(0, wrong)):
                self.assertRaises(InvalidFrame, call)

    def test_lists_and_tuples_as_sequences(self):
        for meetings in ([(0, 1, True), (1, 2, False)], ((0, 1, True), (1, 2, False))):
            self.assertEqual(Day(3, meetings).meetings, ((0, 1, True), (1, 2, False)))
        for known in ([(0, True), (1, False)], ((0, True), (1, False))):
            self.assertEqual(Frame(3, known=known).known, ((0, True), (1, False)))
        look = (Rule(), ((0, 1, "busy"),))
        for looks in ([look, look], (look, look)):
            self.assertEqual(many_days(Frame(3), looks), 1)
            self.assertEqual(sure.sure(Frame(3), looks), ((1, 2), (0,)))
            for several in ([(Frame(3), looks)], ((Frame(3), looks),)):
                self.assertEqual(shared(several), ((0, 1),))

    def test_later_changes_have_no_effect(self):
        meetings = [(0, 1, True)]
        day = Day(3, meetings)
        meetings.append((1, 2, False))
        meetings[0] = None
        self.assertEqual(day.meetings, ((0, 1, True),))
        self.assertEqual(str(day), "3: 0-1 private")
        known = [(0, True)]
        frame = Frame(3, known=known)
        known[0] = None
        known.append((1, False))
        self.assertEqual(frame, Frame(3, known=((0, True),)))
        self.assertEqual(str(frame), "length 3 shortest 1 taken 0")
        looks = [(Rule(), ((0, 1, "busy"),))]
        standing, told = begun(frame, looks), layers(frame, looks)
        looks.append(None)
        self.assertEqual(standing, ("", 0, 0, (((0, None), (0, None)),)))
        self.assertEqual(told, layers(frame, looks[:1]))

    def test_arguments_stay_as_they_are(self):
        meetings = [(0, 1, True), (2, 3, False)]
        day = Day(3, meetings)
        day.having((1, 2, True))
        day.without(0)
        self.assertEqual(meetings, [(0, 1, True), (2, 3, False)])
        others = {"step": 3}
        Rule().but(**others)
        self.assertEqual(others, {"step": 3})

    def test_frames_and_looks_stay_as_they_are(self):
        known, looks = [(0, True), (0, True)], [(Rule(2), ((0, 2, "busy"),)), (Rule(), ((0, 1, "busy"),))]
        text, copied = "length 3 shortest 1 most 3 private taken 0 taken 0", list(looks)
        frame = Frame(3, 1, 3, True, known)
        frame.knowing(1, False)
        for call in (begun, layers, fits, a_day, many_days, sure.sure, fewest, greatest, begins, ends, can_be):
            call(frame, looks)
        slot(frame, looks, 0, 1)
        free_days(frame, looks, 0, 1)
        best_slots(frame, looks, 1)
        several = [(frame, looks), (frame, looks)]
        shared(several)
        self.assertEqual(several, [(frame, looks), (frame, looks)])
        told = [[standing] for standing in paper(frame, looks, 0, True)]
        paper_holds(frame, looks, 0, True, told)
        self.assertEqual(told, [[standing] for standing in paper(frame, looks, 0, True)])
        views(frame, looks[0][0])
        parting(frame, looks[0][0], looks[1][0])
        after(frame, looks, 0, begun(frame, looks), "busy")
        closes(frame, looks, begun(frame, looks))
        is_fit(frame, looks, Day(3))
        self.assertEqual(known, [(0, True), (0, True)])
        self.assertEqual(looks, copied)
        self.assertEqual(str(frame), text)


class Objects(unittest.TestCase):
    def test_same_call_equal_result(self):
        day, rule = Day(5, [(0, 2, False), (3, 4, True)]), Rule(3, 4, 5, "one", (1, 9))
        calls = [lambda: day.taken, lambda: day.without(1), lambda: day.having((4, 5, True)), lambda: str(day),
                 lambda: day[1], lambda: len(day), lambda: rule.normal, lambda: rule.but(gap=1), lambda: str(rule),
                 lambda: alike(rule, rule.normal), lambda: Day.read("5: 1-2"), lambda: Day(5), lambda: Rule()]
        frame, looks = Frame(5, 1, 2, True, [(0, True)]), [(rule, show(rule, day))]
        calls += [lambda: show(rule, day), lambda: show(Rule(), day), lambda: read_view("-"), lambda: Frame(5),
                  lambda: frame.knowing(1, True), lambda: frame.lets(day), lambda: str(frame),
                  lambda: a_day(frame, looks), lambda: layers(frame, looks), lambda: layers(frame, ()),
                  lambda: many_days(frame, looks),
                  lambda: many_days(Frame(5), ()), lambda: fits(frame, looks), lambda: begun(frame, looks),
                  lambda: after(frame, looks, 0, begun(frame, looks), "busy"), lambda: is_fit(frame, looks, day)]
        several = [(frame, looks), (Frame(5), ())]
        calls += [lambda: sure.sure(frame, looks), lambda: slot(frame, looks, 1, 2), lambda: fewest(frame, looks),
                  lambda: free_days(frame, looks, 1, 2), lambda: best_slots(frame, looks, 2), lambda: shared(several),
                  lambda: greatest(frame, looks), lambda: begins(frame, looks), lambda: ends(frame, looks),
                  lambda: can_be(frame, looks), lambda: paper(frame, looks, 0, True),
                  lambda: paper_holds(frame, looks, 0, True, paper(frame, looks, 0, True)),
                  lambda: views(frame, rule), lambda: finer(frame, rule, Rule()), lambda: parting(frame, rule, Rule())]
        first = [call() for call in calls]
        again = [call() for call in reversed(calls)]
        self.assertEqual(first, again[::-1])

    def test_not_iterable(self):
        for thing in (Day(3), Day(3, [(0, 1, True), (1, 2, False)]), Rule(), Rule(hours=(1, 2)), InvalidDay("length"),
                      Frame(3), Frame(3, known=[(0, True)])):
            with self.assertRaises(TypeError):
                iter(thing)
            with self.assertRaises(TypeError):
                list(thing)
            with self.assertRaises(TypeError):
                first, second = thing
            with self.assertRaises(TypeError):
                for part in thing:
                    self.fail(part)

    def test_nothing_in_them(self):
        for thing in (Day(3, [(0, 1, True)]), Rule(), Frame(3, known=[(0, True)])):
            with self.assertRaises(TypeError):
                (0, 1, True) in thing

    def test_returned_sequences_are_tuples(self):
        looks = [(Rule(2), ((0, 2, "busy"),))]
        frame = Frame(3, known=[(0, True)])
        for told in (show(Rule(), Day(3)), read_view("-"), frame.known, frame.knowing(1, True).known,
                     begun(frame, looks), begun(frame, looks)[3],
                     after(frame, looks, 0, begun(frame, looks), "busy"), layers(frame, looks),
                     layers(frame, looks)[1], layers(frame.knowing(0, False), looks), a_day(frame, looks).meetings):
            self.assertIs(type(told), tuple)

    def test_returned_sequences_are_tuples_throughout(self):
        looks = [(Rule(2), ((0, 2, "busy"),))]
        frame = Frame(3, known=[(0, True)])
        for told in (sure.sure(frame, looks), best_slots(frame, looks, 2), begins(frame, looks), ends(frame, looks),
                     can_be(frame, looks), can_be(frame.knowing(0, False), looks), shared([(frame, looks)]),
                     paper(frame, looks, 0, True), views(frame, Rule()), views(frame.knowing(0, False), Rule()),
                     parting(frame, Rule(2), Rule()), best_slots(frame.knowing(0, False), looks, 2)):
            self.assertIs(type(told), tuple)
            self.assertNotIn("[", repr(told))

    def test_bools(self):
        looks = [(Rule(2), ((0, 2, "busy"),))]
        frame = Frame(3, known=[(0, True)])
        told = paper(frame, looks, 0, True)
        for value in (paper_holds(frame, looks, 0, True, told), paper_holds(frame, looks, 0, False, told),
                      paper_holds(frame, looks, 0, True, None), finer(frame, Rule(), Rule(2)),
                      finer(frame, Rule(2), Rule()), frame.lets(Day(3)), alike(Rule(), Rule(2)), is_view(())):
            self.assertIs(type(value), bool)


if __name__ == "__main__":
    unittest.main()
