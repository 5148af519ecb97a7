"""Points 1, 2 and 3 for what has landed, and the section on the interface."""

import ast
import inspect
import pathlib
import unittest

from dimdays import changes, choosing, comparing, days, desk, errors, frames, knowing, live, meetings, net, papers
from dimdays import rules, showing, sure
from dimdays.changes import change, least_change
from dimdays.choosing import answers, best_looks, left, veils
from dimdays.comparing import finer, parting, views
from dimdays.days import Day
from dimdays.desk import Desk
from dimdays.errors import InvalidCommand, InvalidDay, InvalidFrame, InvalidLooks, InvalidRule, InvalidSlot, Refused
from dimdays.frames import Frame
from dimdays.knowing import a_day, fits, is_fit, many_days
from dimdays.live import Live
from dimdays.meetings import begins, can_be, ends, fewest, greatest, shared
from dimdays.net import after, begun, closes, layers
from dimdays.papers import paper, paper_holds
from dimdays.rules import Rule, alike
from dimdays.showing import is_view, read_view, show, view_text
from dimdays.sure import best_slots, free_days, slot

PACKAGE = pathlib.Path(__file__).resolve().parent.parent / "dimdays"

FUNCTIONS = {
    "days.py": {"Day": [
        "__init__", "taken", "without", "having", "read", "__len__", "__getitem__", "__eq__", "__str__"]},
    "rules.py": {"Rule": ["__init__", "normal", "but", "read", "__eq__", "__str__"], "alike": []},
    "errors.py": {name: [] for name in (
        "DimError", "InvalidDay", "InvalidRule", "InvalidFrame", "InvalidText", "InvalidLooks", "InvalidSlot",
        "InvalidCommand", "Refused", "NoMeeting")},
    "showing.py": {name: [] for name in ("show", "is_view", "view_text", "read_view")},
    "frames.py": {"Frame": ["__init__", "knowing", "lets", "read", "__eq__", "__str__"]},
    "net.py": {name: [] for name in ("begun", "after", "closes", "layers")},
    "knowing.py": {name: [] for name in ("is_fit", "fits", "a_day", "many_days")},
    "sure.py": {name: [] for name in ("sure", "slot", "free_days", "best_slots")},
    "meetings.py": {name: [] for name in ("fewest", "greatest", "begins", "ends", "can_be", "shared")},
    "papers.py": {name: [] for name in ("paper", "paper_holds")},
    "comparing.py": {name: [] for name in ("views", "finer", "parting")},
    "choosing.py": {name: [] for name in ("left", "best_looks", "answers", "veils")},
    "changes.py": {name: [] for name in ("least_change", "change")},
    "live.py": {"Live": ["__init__", "look", "know", "several", "undo", "within", "__len__"]},
    "desk.py": {"Desk": ["__init__", "say"]},
}


def defined(file):
    """Return what a file of the package defines, each class with the names defined in it."""
    found = {}
    for part in ast.parse((PACKAGE / file).read_text()).body:
        if isinstance(part, (ast.FunctionDef, ast.ClassDef)):
            found[part.name] = [inner.name for inner in part.body if isinstance(inner, ast.FunctionDef)] \
                if isinstance(part, ast.ClassDef) else []
    return found


def filled_live():
    """Return a live thing with deeds."""
    one = Live(Frame(3))
    one.know(0, True)
    one.look(Rule(), ((0, 1, "busy"),))
    return one


def filled_desk():
    """Return a desk at which something was said."""
    place = Desk()
    place.say("frame length 3 shortest 1")
    place.say("know 0 taken")
    return place


class Interface(unittest.TestCase):
    def test_each_is_defined_in_its_file(self):
        for file, names in FUNCTIONS.items():
            found = defined(file)
            for name, methods in names.items():
                self.assertIn(name, found)
                for method in methods:
                    self.assertIn(method, found[name])

    def test_only_a_docstring(self):
        tree = ast.parse((PACKAGE / "__init__.py").read_text())
        self.assertEqual(len(tree.body), 1)
        self.assertIsNotNone(ast.get_docstring(tree))

    def test_parameters(self):
        wanted = [
            (Day, "(length, meetings=())"), (Day.without, "(self, at)"), (Day.having, "(self, meeting)"),
            (Day.read, "(text)"), (Rule, "(step=1, gap=0, least=0, private='busy', hours=None)"),
            (Rule.but, "(self, **others)"), (Rule.read, "(text)"), (alike, "(p, q)"),
            (show, "(rule, day)"), (is_view, "(value)"), (view_text, "(view)"), (read_view, "(text)"),
            (Frame, "(length, shortest=1, most=None, private=False, known=())"),
            (Frame.knowing, "(self, tick, is_taken)"), (Frame.lets, "(self, day)"), (Frame.read, "(text)"),
            (begun, "(frame, looks)"), (after, "(frame, looks, tick, standing, letter)"),
            (closes, "(frame, looks, standing)"), (layers, "(frame, looks)"), (is_fit, "(frame, looks, day)"),
            (fits, "(frame, looks)"), (a_day, "(frame, looks)"), (many_days, "(frame, looks)"),
            (sure.sure, "(frame, looks)"), (slot, "(frame, looks, begin, end)"),
            (free_days, "(frame, looks, begin, end)"), (best_slots, "(frame, looks, size)"),
            (fewest, "(frame, looks)"), (greatest, "(frame, looks)"), (begins, "(frame, looks)"),
            (ends, "(frame, looks)"), (can_be, "(frame, looks)"), (shared, "(several)"),
            (paper, "(frame, looks, tick, is_taken)"), (paper_holds, "(frame, looks, tick, is_taken, value)"),
            (views, "(frame, rule)"), (finer, "(frame, p, q)"), (parting, "(frame, p, q)"),
            (left, "(frame, looks, rule)"), (best_looks, "(frame, looks, rules)"),
            (answers, "(frame, rule, begin, end)"), (veils, "(frame, rule, begin, end, word)"),
            (least_change, "(frame, looks, later)"), (change, "(frame, looks, later)"),
            (Live, "(frame)"), (Live.look, "(self, rule, view)"), (Live.know, "(self, tick, is_taken)"),
            (Live.several, "(self, looks)"), (Live.undo, "(self)"), (Live.within, "(self, work)"),
            (Desk, "()"), (Desk.say, "(self, command)"),
        ]
        for thing, signature in wanted:
            self.assertEqual(str(inspect.signature(thing)), signature)

    def test_kinds_of_members(self):
        self.assertIsInstance(vars(Day)["read"], classmethod)
        self.assertIsInstance(vars(Rule)["read"], classmethod)
        self.assertIsInstance(vars(Frame)["read"], classmethod)
        self.assertIsInstance(vars(Day)["taken"], property)
        self.assertIsInstance(vars(Rule)["normal"], property)

    def test_attributes_are_set_at_once(self):
        self.assertEqual(set(vars(Day(3))) >= {"length", "meetings"}, True)
        self.assertEqual(set(vars(Rule())) >= {"step", "gap", "least", "private", "hours"}, True)
        self.assertEqual(set(vars(Frame(3))) >= {"length", "shortest", "most", "private", "known"}, True)
        self.assertEqual(set(vars(Live(Frame(3)))) >= {"frame", "looks"}, True)
        self.assertEqual(set(vars(Desk())) >= {"live"}, True)

    def test_modules(self):
        for module in (changes, choosing, comparing, days, desk, errors, frames, knowing, live, meetings, net, papers,
                       rules, showing, sure):
            self.assertEqual(pathlib.Path(module.__file__).resolve().parent, PACKAGE)


class Arguments(unittest.TestCase):
    def test_by_name_in_any_order(self):
        self.assertEqual(Day(meetings=[(0, 1, True)], length=3), Day(3, [(0, 1, True)]))
        self.assertEqual(Rule(hours=(1, 2), private="one", least=3, gap=4, step=5), Rule(5, 4, 3, "one", (1, 2)))
        day = Day(3, [(0, 1, True)])
        self.assertEqual(day.without(at=0), Day(3))
        self.assertEqual(day.having(meeting=(1, 3, False)), Day(3, ((0, 1, True), (1, 3, False))))
        self.assertEqual(Day.read(text="3: 0-1 private"), day)
        self.assertEqual(Rule.read(text="step 1 gap 0 least 0 private busy"), Rule())
        self.assertIs(alike(q=Rule(2), p=Rule(3)), False)
        self.assertIs(alike(q=Rule(3, 1), p=Rule(3)), True)

    def test_by_name_in_any_order_for_frames_and_views(self):
        frame = Frame(known=[(0, True)], private=True, most=2, shortest=1, length=3)
        self.assertEqual(frame, Frame(3, 1, 2, True, [(0, True)]))
        self.assertEqual(Frame(3).knowing(is_taken=True, tick=1), Frame(3, known=[(1, True)]))
        self.assertIs(frame.lets(day=Day(3)), False)
        self.assertEqual(Frame.read(text="length 3 shortest 1"), Frame(3))
        view = show(day=Day(3, [(0, 1, True)]), rule=Rule())
        self.assertEqual(view, ((0, 1, "busy"),))
        self.assertIs(is_view(value=view), True)
        self.assertEqual(view_text(view=view), "0-1 busy")
        self.assertEqual(read_view(text="0-1 busy"), view)

    def test_by_name_in_any_order_for_looks(self):
        frame, looks = Frame(3), [(Rule(), ((0, 1, "busy"),))]
        standing = begun(looks=looks, frame=frame)
        behind = after(letter="busy", standing=standing, tick=0, looks=looks, frame=frame)
        self.assertEqual(behind, ("busy", 1, 0, (((0, (0, 1)), (0, None)),)))
        self.assertIs(closes(standing=behind, looks=looks, frame=frame), True)
        self.assertEqual(layers(looks=looks, frame=frame)[1], (behind,))
        self.assertIs(is_fit(day=Day(3), looks=looks, frame=frame), False)
        self.assertIs(fits(looks=looks, frame=frame), True)
        self.assertEqual(a_day(looks=looks, frame=frame), Day(3, [(0, 1, False)]))
        self.assertEqual(many_days(looks=looks, frame=frame), 1)

    def test_by_name_in_any_order_for_what_is_known(self):
        frame, looks = Frame(3), [(Rule(), ((0, 1, "busy"),))]
        self.assertEqual(sure.sure(looks=looks, frame=frame), ((1, 2), (0,)))
        self.assertEqual(slot(end=1, begin=0, looks=looks, frame=frame), "never")
        self.assertEqual(free_days(end=3, begin=1, looks=looks, frame=frame), 1)
        self.assertEqual(best_slots(size=1, looks=looks, frame=frame), (1, 2))
        for call, wanted in ((fewest, 1), (greatest, 1), (begins, ((0,), (0,))), (ends, ((1,), (1,))),
                             (can_be, ((0, 1, False),))):
            self.assertEqual(call(looks=looks, frame=frame), wanted)
        self.assertEqual(shared(several=[(frame, looks)]), ((0, 1),))
        told = paper(is_taken=False, tick=2, looks=looks, frame=frame)
        self.assertIs(paper_holds(value=told, is_taken=False, tick=2, looks=looks, frame=frame), True)
        self.assertEqual(views(rule=Rule(4), frame=frame), (((), 1), (((0, 4, "busy"),), 12)))
        self.assertIs(finer(q=Rule(4), p=Rule(2), frame=frame), True)
        self.assertEqual(len(parting(q=Rule(2), p=Rule(4), frame=frame)), 2)

    def test_by_name_in_any_order_for_choices_and_changes(self):
        frame, looks = Frame(3), [(Rule(), ((0, 1, "busy"),))]
        self.assertEqual(left(rule=Rule(2), looks=looks, frame=frame), 1)
        self.assertEqual(best_looks(rules=[Rule(4), Rule()], looks=[], frame=frame), (1,))
        self.assertEqual(answers(end=1, begin=0, rule=Rule(4), frame=frame), ("always", "sometimes"))
        self.assertIn(str(Rule(3)), veils(word="never", end=1, begin=0, rule=Rule(4), frame=frame))
        self.assertEqual(least_change(later=looks, looks=[(Rule(), ())], frame=frame), 1)
        self.assertEqual(change(later=looks, looks=[(Rule(), ())], frame=frame), (Day(3), Day(3, [(0, 1, False)])))
        one = Live(frame=frame)
        self.assertEqual((one.look(view=((0, 1, "busy"),), rule=Rule()), one.know(is_taken=True, tick=0)), (1, 1))
        self.assertEqual((one.several(looks=()), one.within(work=len), Desk().say(command="frame length 1 shortest 1")),
                         (1, 3, "2"))

    def test_errors_in_their_order(self):
        frame, wrong = Frame(3), [(Rule(), ()), None]
        for call in (slot, free_days):
            self.assertRaises(InvalidLooks, call, frame, wrong, None, None)
        for at, looks, later in ((1, wrong, None), (0, None, wrong), (1, [], wrong)):
            for call in (least_change, change):
                with self.assertRaises(InvalidLooks) as caught:
                    call(frame, looks, later)
                self.assertEqual(caught.exception.at, at)
        self.assertRaises(InvalidSlot, answers, frame, Rule(), 0, None)
        self.assertRaises(InvalidCommand, Desk().say, "know 9 taken")

    def test_true_and_false_are_no_integers(self):
        for wrong in (True, False):
            for call, error in ((lambda: Day(wrong), InvalidDay), (lambda: Day(3, [(wrong, 2, True)]), InvalidDay),
                                (lambda: Day(3, [(0, wrong, True)]), InvalidDay), (lambda: Rule(wrong), InvalidRule),
                                (lambda: Rule(gap=wrong), InvalidRule), (lambda: Rule(least=wrong), InvalidRule),
                                (lambda: Rule(hours=(wrong, 2)), InvalidRule), (lambda: Frame(wrong), InvalidFrame),
                                (lambda: Frame(3, wrong), InvalidFrame), (lambda: Frame(3, 1, wrong), InvalidFrame),
                                (lambda: Frame(3, known=[(wrong, True)]), InvalidFrame),
                                (lambda: Frame(3).knowing(wrong, True), InvalidFrame),
                                (lambda: fits(Frame(3), [(Rule(), ((wrong, 2, "busy"),))]), InvalidLooks),
                                (lambda: fits(Frame(3), [(Rule(), ((0, wrong, "busy"),))]), InvalidLooks),
                                (lambda: slot(Frame(3), (), wrong, 2), InvalidSlot),
                                (lambda: free_days(Frame(3), (), 0, wrong), InvalidSlot),
                                (lambda: answers(Frame(3), Rule(), wrong, 3), InvalidSlot),
                                (lambda: veils(Frame(3), Rule(), 0, wrong, "never"), InvalidSlot),
                                (lambda: Live(Frame(3)).know(wrong, True), InvalidFrame),
                                (lambda: Live(Frame(3)).look(Rule(), ((wrong, 2, "busy"),)), InvalidLooks),
                                (lambda: Live(Frame(3)).several([(Rule(), ((0, wrong, "busy"),))]), Refused)):
                self.assertRaises(error, call)
            self.assertIs(is_view(((wrong, 2, "busy"),)), False)
            self.assertIs(is_view(((0, wrong, "busy"),)), False)

    def test_zero_and_one_are_no_bools(self):
        for wrong in (0, 1):
            with self.assertRaises(InvalidDay):
                Day(3, [(0, 1, wrong)])
            for call in (lambda: Frame(3, private=wrong), lambda: Frame(3, known=[(0, wrong)]),
                         lambda: Frame(3).knowing(0, wrong), lambda: Live(Frame(3)).know(0, wrong)):
                self.assertRaises(InvalidFrame, call)

    def test_lists_and_tuples_as_sequences(self):
        for meetings in ([(0, 1, True), (1, 2, False)], ((0, 1, True), (1, 2, False))):
            self.assertEqual(Day(3, meetings).meetings, ((0, 1, True), (1, 2, False)))
        for known in ([(0, True), (1, False)], ((0, True), (1, False))):
            self.assertEqual(Frame(3, known=known).known, ((0, True), (1, False)))
        look = (Rule(), ((0, 1, "busy"),))
        for looks in ([look, look], (look, look)):
            self.assertEqual(many_days(Frame(3), looks), 1)
            self.assertEqual(sure.sure(Frame(3), looks), ((1, 2), (0,)))
            for several in ([(Frame(3), looks)], ((Frame(3), looks),)):
                self.assertEqual(shared(several), ((0, 1),))
            for rules_asked in ([Rule(), Rule(2)], (Rule(), Rule(2))):
                self.assertEqual(best_looks(Frame(3), looks, rules_asked), (0, 1))
            self.assertEqual(least_change(Frame(3), looks, looks), 0)
            self.assertEqual(Live(Frame(3)).several(looks), 1)

    def test_later_changes_have_no_effect(self):
        meetings = [(0, 1, True)]
        day = Day(3, meetings)
        meetings.append((1, 2, False))
        meetings[0] = None
        self.assertEqual(day.meetings, ((0, 1, True),))
        self.assertEqual(str(day), "3: 0-1 private")
        known = [(0, True)]
        frame = Frame(3, known=known)
        known[0] = None
        known.append((1, False))
        self.assertEqual(frame, Frame(3, known=((0, True),)))
        self.assertEqual(str(frame), "length 3 shortest 1 taken 0")
        looks = [(Rule(), ((0, 1, "busy"),))]
        standing, told = begun(frame, looks), layers(frame, looks)
        looks.append(None)
        self.assertEqual(standing, ("", 0, 0, (((0, None), (0, None)),)))
        self.assertEqual(told, layers(frame, looks[:1]))

    def test_arguments_stay_as_they_are(self):
        meetings = [(0, 1, True), (2, 3, False)]
        day = Day(3, meetings)
        day.having((1, 2, True))
        day.without(0)
        self.assertEqual(meetings, [(0, 1, True), (2, 3, False)])
        others = {"step": 3}
        Rule().but(**others)
        self.assertEqual(others, {"step": 3})

    def test_frames_and_looks_stay_as_they_are(self):
        known, looks = [(0, True), (0, True)], [(Rule(2), ((0, 2, "busy"),)), (Rule(), ((0, 1, "busy"),))]
        text, copied = "length 3 shortest 1 most 3 private taken 0 taken 0", list(looks)
        frame = Frame(3, 1, 3, True, known)
        frame.knowing(1, False)
        for call in (begun, layers, fits, a_day, many_days, sure.sure, fewest, greatest, begins, ends, can_be):
            call(frame, looks)
        slot(frame, looks, 0, 1)
        free_days(frame, looks, 0, 1)
        best_slots(frame, looks, 1)
        several = [(frame, looks), (frame, looks)]
        shared(several)
        self.assertEqual(several, [(frame, looks), (frame, looks)])
        told = [[standing] for standing in paper(frame, looks, 0, True)]
        paper_holds(frame, looks, 0, True, told)
        self.assertEqual(told, [[standing] for standing in paper(frame, looks, 0, True)])
        views(frame, looks[0][0])
        parting(frame, looks[0][0], looks[1][0])
        rules_asked = [Rule(), Rule(2)]
        best_looks(frame, looks, rules_asked)
        self.assertEqual(rules_asked, [Rule(), Rule(2)])
        left(frame, looks, Rule())
        change(frame, looks, looks)
        veils(frame, Rule(), 0, 1, "never")
        one = Live(frame)
        one.several(looks)
        one.look(*looks[0])
        one.know(1, False)
        one.within(lambda again: again.undo())
        after(frame, looks, 0, begun(frame, looks), "busy")
        closes(frame, looks, begun(frame, looks))
        is_fit(frame, looks, Day(3))
        self.assertEqual(known, [(0, True), (0, True)])
        self.assertEqual(looks, copied)
        self.assertEqual(str(frame), text)


class Objects(unittest.TestCase):
    def test_same_call_equal_result(self):
        day, rule = Day(5, [(0, 2, False), (3, 4, True)]), Rule(3, 4, 5, "one", (1, 9))
        calls = [lambda: day.taken, lambda: day.without(1), lambda: day.having((4, 5, True)), lambda: str(day),
                 lambda: day[1], lambda: len(day), lambda: rule.normal, lambda: rule.but(gap=1), lambda: str(rule),
                 lambda: alike(rule, rule.normal), lambda: Day.read("5: 1-2"), lambda: Day(5), lambda: Rule()]
        frame, looks = Frame(5, 1, 2, True, [(0, True)]), [(rule, show(rule, day))]
        calls += [lambda: show(rule, day), lambda: show(Rule(), day), lambda: read_view("-"), lambda: Frame(5),
                  lambda: frame.knowing(1, True), lambda: frame.lets(day), lambda: str(frame),
                  lambda: a_day(frame, looks), lambda: layers(frame, looks), lambda: layers(frame, ()),
                  lambda: many_days(frame, looks),
                  lambda: many_days(Frame(5), ()), lambda: fits(frame, looks), lambda: begun(frame, looks),
                  lambda: after(frame, looks, 0, begun(frame, looks), "busy"), lambda: is_fit(frame, looks, day)]
        several = [(frame, looks), (Frame(5), ())]
        calls += [lambda: sure.sure(frame, looks), lambda: slot(frame, looks, 1, 2), lambda: fewest(frame, looks),
                  lambda: free_days(frame, looks, 1, 2), lambda: best_slots(frame, looks, 2), lambda: shared(several),
                  lambda: greatest(frame, looks), lambda: begins(frame, looks), lambda: ends(frame, looks),
                  lambda: can_be(frame, looks), lambda: paper(frame, looks, 0, True),
                  lambda: paper_holds(frame, looks, 0, True, paper(frame, looks, 0, True)),
                  lambda: views(frame, rule), lambda: finer(frame, rule, Rule()), lambda: parting(frame, rule, Rule()),
                  lambda: left(frame, looks, Rule()), lambda: best_looks(frame, looks, [Rule(), rule]),
                  lambda: answers(frame, rule, 0, 2), lambda: veils(frame, rule, 0, 2, "always"),
                  lambda: least_change(frame, looks, ()), lambda: change(frame, looks, [(Rule(2), ((0, 4, "busy"),))])]
        one, place = Live(frame), Desk()
        one.several(looks)
        place.say("frame length 4 shortest 1")
        calls += [lambda: one.frame, lambda: one.looks, lambda: len(one),
                  lambda: one.within(lambda again: again.know(1, True)), lambda: place.say("free"),
                  lambda: place.say("slot 0 2"), lambda: place.say("meetings"), lambda: place.live,
                  lambda: place.say("taken"), lambda: place.say("undo")]
        first = [call() for call in calls]
        again = [call() for call in reversed(calls)]
        self.assertEqual(first, again[::-1])

    def test_not_iterable(self):
        for thing in (Day(3), Day(3, [(0, 1, True), (1, 2, False)]), Rule(), Rule(hours=(1, 2)), InvalidDay("length"),
                      Frame(3), Frame(3, known=[(0, True)]), Live(Frame(3)), filled_live(), Desk(), filled_desk(),
                      Refused(0), InvalidSlot()):
            with self.assertRaises(TypeError):
                iter(thing)
            with self.assertRaises(TypeError):
                list(thing)
            with self.assertRaises(TypeError):
                first, second = thing
            with self.assertRaises(TypeError):
                for part in thing:
                    self.fail(part)

    def test_nothing_in_them(self):
        for thing in (Day(3, [(0, 1, True)]), Rule(), Frame(3, known=[(0, True)]), filled_live(), filled_desk()):
            with self.assertRaises(TypeError):
                (0, 1, True) in thing

    def test_returned_sequences_are_tuples(self):
        looks = [(Rule(2), ((0, 2, "busy"),))]
        frame = Frame(3, known=[(0, True)])
        for told in (show(Rule(), Day(3)), read_view("-"), frame.known, frame.knowing(1, True).known,
                     begun(frame, looks), begun(frame, looks)[3],
                     after(frame, looks, 0, begun(frame, looks), "busy"), layers(frame, looks),
                     layers(frame, looks)[1], layers(frame.knowing(0, False), looks), a_day(frame, looks).meetings):
            self.assertIs(type(told), tuple)

    def test_returned_sequences_are_tuples_throughout(self):
        looks = [(Rule(2), ((0, 2, "busy"),))]
        frame = Frame(3, known=[(0, True)])
        for told in (sure.sure(frame, looks), best_slots(frame, looks, 2), begins(frame, looks), ends(frame, looks),
                     can_be(frame, looks), can_be(frame.knowing(0, False), looks), shared([(frame, looks)]),
                     paper(frame, looks, 0, True), views(frame, Rule()), views(frame.knowing(0, False), Rule()),
                     parting(frame, Rule(2), Rule()), best_slots(frame.knowing(0, False), looks, 2),
                     best_looks(frame, looks, []), best_looks(frame, looks, [Rule()]), answers(frame, Rule(), 0, 1),
                     veils(frame, Rule(), 0, 1, "never"), change(frame, looks, looks), filled_live().looks,
                     Live(frame).looks):
            self.assertIs(type(told), tuple)
            self.assertNotIn("[", repr(told))

    def test_bools(self):
        looks = [(Rule(2), ((0, 2, "busy"),))]
        frame = Frame(3, known=[(0, True)])
        told = paper(frame, looks, 0, True)
        for value in (paper_holds(frame, looks, 0, True, told), paper_holds(frame, looks, 0, False, told),
                      paper_holds(frame, looks, 0, True, None), finer(frame, Rule(), Rule(2)),
                      finer(frame, Rule(2), Rule()), frame.lets(Day(3)), alike(Rule(), Rule(2)), is_view(()),
                      filled_live().undo(), Live(frame).undo()):
            self.assertIs(type(value), bool)


if __name__ == "__main__":
    unittest.main()
