import copy
import inspect
import random
import unittest

from frontmeets.errors import (
    HeightTaken, InvalidDeed, InvalidHeight, InvalidKind, InvalidLine, InvalidPlan, LastLine,
    LineInUse, LineTaken, NobodyWaits, NothingToUndo, TooManyDeeds, TooManyLines, TooManyPeople,
    UnknownHeight, UnknownLine,
)
from frontmeets.notation import format_plan
from frontmeets.plans import lines_of, without_line
from frontmeets.running import next_person, run_plan
from frontmeets.yard import Yard, replay
from tests.checks import Case
from tests.samples import PLANS, Agreeing, left_comb, no_plans, other_values

PLAN = ("low", ("a", "b"))
EIGHT = left_comb(["low", "high"] * 3 + ["low"])
WRONG_LINES = [value for value in other_values() if value != "lo"] + ["", "A", "abcdefg", "a ", ("a",), ["a"]]
METHODS = {
    "enter": ["line", "height"], "leave": ["height"], "go": [], "open_line": ["line", "kind"],
    "close_line": ["line"], "do_all": ["deeds", "watch"], "undo": [], "plan": [], "crowd": [],
    "gone": [], "rest": [], "log": [],
}
THREE_DEEDS = (("enter", "a", 5), ("enter", "b", 3), ("enter", "a", 1))


class OwnError(BaseException):
    """An error that is no error of the package, nor even an Exception."""


def make_yard(*deeds, plan=PLAN):
    """Return a yard in which these deeds were done."""
    yard = Yard(plan)
    yard.do_all(deeds)
    return yard


def three():
    """Return the yard of the document's examples."""
    return make_yard(*THREE_DEEDS)


def full_yard(plan=EIGHT):
    """Return a yard in which 40 people wait."""
    lines = lines_of(plan)
    return make_yard(*[("enter", lines[height % len(lines)], height) for height in range(1, 41)], plan=plan)


def thousand(plan=PLAN, rest=()):
    """Return a yard whose log has a thousand deeds; the rest of them are the last."""
    deeds = (("enter", "a", 1), ("leave", 1)) * 500
    return make_yard(*deeds[:1000 - len(rest)], *rest, plan=plan)


def state_of(yard):
    """Return all that the yard tells."""
    return (yard.plan(), yard.crowd(), yard.gone(), yard.rest(), yard.log(), yard.busy,
            len(yard), str(yard), repr(yard), bool(yard))


def perform(yard, deed):
    """Perform the deed by the method for it and return what this returns."""
    methods = {"enter": yard.enter, "leave": yard.leave, "go": yard.go,
               "open": yard.open_line, "close": yard.close_line}
    return methods[deed[0]](*deed[1:])


def draw_deed(chance, yard):
    """Return any deed for the yard, mostly one that can be done."""
    lines = lines_of(yard.plan())
    word = chance.choice(("enter", "enter", "enter", "leave", "go", "open", "close"))
    waiting = [height for _, row in yard.crowd() for height in row]
    if word == "enter":
        return word, chance.choice(lines), chance.randint(1, 60)
    if word == "leave":
        return word, chance.choice(waiting + [7])
    if word == "open":
        return word, chance.choice("abcdefghij"), chance.choice(("low", "high"))
    return (word,) if word == "go" else (word, chance.choice(lines))


class YardCase(Case):
    def assert_refused(self, yard, error, attributes, deed):
        """Check that the deed raises just this error, by all ways, and changes nothing."""
        before = state_of(yard)
        self.assert_error(error, attributes, perform, yard, deed)
        self.assertEqual(state_of(yard), before)
        self.assert_error(error, attributes, yard.do_all, (deed,))
        self.assertEqual(state_of(yard), before)

    def assert_state(self, yard, plan, crowd, gone, log):
        """Check all that the yard tells."""
        people = sum([len(row) for _, row in crowd])
        rest = run_plan(plan, crowd)
        lines = len(lines_of(plan))
        self.assertEqual(state_of(yard), (
            plan, crowd, gone, rest, log, False, people, format_plan(plan),
            f"Yard({lines} lines, {people} people)", people > 0,
        ))
        for value in (yard.plan(), yard.crowd(), yard.gone(), yard.rest(), yard.log()):
            self.assert_plain(value)


class NewYardTest(YardCase):
    def test_the_interface(self):
        self.assertTrue(inspect.isclass(Yard))
        self.assertEqual(Yard.__module__, "frontmeets.yard")
        self.assertEqual(list(inspect.signature(Yard).parameters), ["plan"])
        for name, parameters in METHODS.items():
            self.assertTrue(inspect.isfunction(vars(Yard)[name]), name)
            self.assertEqual(list(inspect.signature(vars(Yard)[name]).parameters)[1:], parameters)
        watch = inspect.signature(Yard.do_all).parameters["watch"]
        self.assertIs(watch.kind, inspect.Parameter.KEYWORD_ONLY)
        self.assertIsNone(watch.default)
        self.assert_interface(replay, "frontmeets.yard", ["plan", "log"])
        for name in ("__len__", "__eq__", "__str__", "__repr__"):
            self.assertIn(name, vars(Yard))

    def test_a_new_yard(self):
        for plan in PLANS:
            for yard in [Yard(plan), Yard(plan=plan)]:
                self.assert_state(yard, plan, (), (), ())
                self.assertIs(yard.busy, False)

    def test_numbers_of_lines_and_people(self):
        self.assertEqual(repr(Yard("a")), "Yard(1 lines, 0 people)")
        self.assertEqual(repr(make_yard(("enter", "a", 7), plan="a")), "Yard(1 lines, 1 people)")
        self.assertEqual(repr(Yard(PLAN)), "Yard(2 lines, 0 people)")
        self.assertEqual(repr(three()), "Yard(2 lines, 3 people)")
        self.assertEqual(repr(full_yard()), "Yard(8 lines, 40 people)")
        self.assertEqual(str(Yard("abc")), "abc")
        self.assertEqual([bool(Yard(PLAN)), bool(three())], [False, True])

    def test_invalid_plans(self):
        for value in no_plans():
            with self.subTest(value=value):
                self.assert_error(InvalidPlan, {"value": value}, Yard, value)

    def test_yards_do_not_change_each_other(self):
        yard = three()
        other = Yard(PLAN)
        before = state_of(yard)
        other.enter("a", 5)
        other.open_line("c", "high")
        self.assertEqual(state_of(yard), before)
        yard.go()
        self.assertEqual(other.crowd(), (("a", (5,)),))
        self.assertEqual(Yard(PLAN).log(), ())


class DeedsTest(YardCase):
    def test_the_examples_of_the_document(self):
        yard = Yard(PLAN)
        self.assertIsNone(yard.enter("a", 5))
        self.assertIsNone(yard.enter("b", 3))
        self.assertIsNone(yard.enter("a", 1))
        found = [yard.rest(), yard.go(), yard.crowd(), yard.gone(), len(yard)]
        self.assertEqual(found, [(3, 5, 1), 3, (("a", (5, 1)),), (3,), 2])
        yard = three()
        yard.open_line("c", "high")
        yard.enter("c", 4)
        found = [str(yard), repr(yard), yard.go()]
        self.assertEqual(found, ["high(low(a, b), c)", "Yard(3 lines, 4 people)", 4])
        self.assert_refused(three(), LineInUse, {"line": "a"}, ("close", "a"))

    def test_enter(self):
        yard = Yard(PLAN)
        self.assertIsNone(yard.enter("b", 3))
        self.assert_state(yard, PLAN, (("b", (3,)),), (), (("enter", "b", 3),))
        self.assertIsNone(yard.enter(height=999, line="b"))
        self.assertIsNone(yard.enter("a", height=1))
        log = (("enter", "b", 3), ("enter", "b", 999), ("enter", "a", 1))
        self.assert_state(yard, PLAN, (("a", (1,)), ("b", (3, 999))), (), log)

    def test_enter_errors_in_their_order(self):
        yard = three()
        for line in other_values() + ["c", "", "A", ("a",), ["a"], Agreeing()]:
            for height in (7, 5, 0, None):
                self.assert_refused(yard, UnknownLine, {"line": line}, ("enter", line, height))
        for height in other_values() + [0, 1000, True, "5", (5,), [5]]:
            self.assert_refused(yard, InvalidHeight, {"height": height}, ("enter", "b", height))
        for height in (5, 3, 1):
            for line in "ab":
                self.assert_refused(yard, HeightTaken, {"height": height}, ("enter", line, height))
        yard = full_yard()
        self.assert_refused(yard, UnknownLine, {"line": "i"}, ("enter", "i", 41))
        self.assert_refused(yard, InvalidHeight, {"height": 0}, ("enter", "a", 0))
        self.assert_refused(yard, HeightTaken, {"height": 40}, ("enter", "a", 40))
        self.assert_refused(yard, TooManyPeople, {"count": 40}, ("enter", "a", 41))
        yard.go()
        self.assertIsNone(yard.enter("a", 41))

    def test_leave(self):
        yard = three()
        self.assertIsNone(yard.leave(5))
        self.assert_state(yard, PLAN, (("a", (1,)), ("b", (3,))), (), THREE_DEEDS + (("leave", 5),))
        self.assertIsNone(yard.leave(height=3))
        log = THREE_DEEDS + (("leave", 5), ("leave", 3))
        self.assert_state(yard, PLAN, (("a", (1,)),), (), log)
        yard = make_yard(*[("enter", "a", height) for height in (4, 9, 2, 7)])
        yard.leave(2)
        self.assertEqual(yard.crowd(), (("a", (4, 9, 7)),))
        yard.leave(7)
        self.assertEqual(yard.crowd(), (("a", (4, 9)),))
        self.assertIsNone(yard.enter("b", 2))

    def test_leave_errors(self):
        yard = three()
        yard.go()
        for height in other_values() + [0, 1000, 2, 3, True, "5", (5,), [5], Agreeing()]:
            self.assert_refused(yard, UnknownHeight, {"height": height}, ("leave", height))
        self.assert_refused(Yard(PLAN), UnknownHeight, {"height": 5}, ("leave", 5))

    def test_go(self):
        yard = three()
        heights = [yard.go(), yard.go(), yard.go()]
        self.assertEqual(heights, [3, 5, 1])
        self.assert_state(yard, PLAN, (), (3, 5, 1), THREE_DEEDS + (("go",),) * 3)
        self.assert_refused(yard, NobodyWaits, {}, ("go",))
        self.assertIsNone(yard.enter("a", 3))
        self.assertEqual(yard.go(), 3)
        self.assertEqual(yard.gone(), (3, 5, 1, 3))
        self.assert_refused(Yard("a"), NobodyWaits, {}, ("go",))

    def test_everybody_goes_as_the_rest_says(self):
        for plan in PLANS:
            yard = full_yard(plan)
            rest = yard.rest()
            self.assertEqual(rest, run_plan(plan, yard.crowd()))
            for place in range(40):
                self.assertEqual(yard.rest(), rest[place:])
                self.assertEqual(next_person(plan, yard.crowd()), rest[place])
                self.assertEqual(yard.go(), rest[place])
            self.assertEqual(yard.gone(), rest)

    def test_open_line(self):
        yard = three()
        crowd = yard.crowd()
        self.assertIsNone(yard.open_line("c", "high"))
        plan = ("high", (PLAN, "c"))
        self.assert_state(yard, plan, crowd, (), THREE_DEEDS + (("open", "c", "high"),))
        self.assertIsNone(yard.open_line(kind="low", line="high"))
        log = THREE_DEEDS + (("open", "c", "high"), ("open", "high", "low"))
        self.assert_state(yard, ("low", (plan, "high")), crowd, (), log)

    def test_open_line_errors_in_their_order(self):
        yard = three()
        for line in WRONG_LINES + [Agreeing()]:
            for kind in ("low", None, "Low"):
                self.assert_refused(yard, InvalidLine, {"line": line}, ("open", line, kind))
        for kind in ("low", None, "Low"):
            self.assert_refused(yard, LineTaken, {"line": "b"}, ("open", "b", kind))
        for kind in other_values() + ["", "LOW", ("low",), Agreeing()]:
            self.assert_refused(yard, InvalidKind, {"kind": kind}, ("open", "c", kind))
        yard = Yard(EIGHT)
        self.assert_refused(yard, InvalidLine, {"line": "I"}, ("open", "I", "low"))
        self.assert_refused(yard, LineTaken, {"line": "h"}, ("open", "h", "low"))
        self.assert_refused(yard, InvalidKind, {"kind": "Low"}, ("open", "i", "Low"))
        self.assert_refused(yard, TooManyLines, {"count": 8}, ("open", "i", "low"))
        yard.close_line("c")
        self.assertIsNone(yard.open_line("i", "low"))
        self.assertEqual(len(lines_of(yard.plan())), 8)

    def test_close_line(self):
        yard = make_yard(("enter", "a", 5), ("open", "c", "high"))
        self.assertIsNone(yard.close_line("b"))
        log = (("enter", "a", 5), ("open", "c", "high"), ("close", "b"))
        self.assert_state(yard, ("high", ("a", "c")), (("a", (5,)),), (), log)
        self.assertIsNone(yard.close_line(line="c"))
        self.assert_state(yard, "a", (("a", (5,)),), (), log + (("close", "c"),))
        for plan in PLANS:
            for line in lines_of(plan)[1:]:
                yard = Yard(plan)
                yard.close_line(line)
                self.assertEqual(yard.plan(), without_line(plan, line))

    def test_close_line_errors_in_their_order(self):
        yard = make_yard(("enter", "a", 5), ("enter", "b", 1), ("leave", 1))
        for line in other_values() + ["c", "", "A", ("a",), ["a"], Agreeing()]:
            self.assert_refused(yard, UnknownLine, {"line": line}, ("close", line))
        self.assert_refused(yard, LineInUse, {"line": "a"}, ("close", "a"))
        yard.close_line("b")
        self.assert_refused(yard, LineInUse, {"line": "a"}, ("close", "a"))
        self.assert_refused(yard, UnknownLine, {"line": "b"}, ("close", "b"))
        yard.go()
        self.assert_refused(yard, LastLine, {}, ("close", "a"))

    def test_a_thousand_deeds(self):
        yard = thousand()
        self.assertEqual(len(yard.log()), 1000)
        for deed in [("enter", "b", 7), ("open", "c", "low"), ("close", "b")]:
            self.assert_refused(yard, TooManyDeeds, {"count": 1000}, deed)
            yard.undo()
            perform(yard, deed)
            self.assertEqual(len(yard.log()), 1000)
            yard.undo()
            yard.leave(1)
        yard = thousand(rest=(("enter", "b", 5),))
        for deed in [("go",), ("leave", 5)]:
            self.assert_refused(yard, TooManyDeeds, {"count": 1000}, deed)

    def test_too_many_deeds_comes_last(self):
        yard = thousand()
        self.assert_refused(yard, UnknownLine, {"line": "c"}, ("enter", "c", 7))
        self.assert_refused(yard, InvalidHeight, {"height": 0}, ("enter", "a", 0))
        self.assert_refused(yard, UnknownHeight, {"height": 1}, ("leave", 1))
        self.assert_refused(yard, NobodyWaits, {}, ("go",))
        self.assert_refused(yard, InvalidLine, {"line": "A"}, ("open", "A", "low"))
        self.assert_refused(yard, LineTaken, {"line": "a"}, ("open", "a", "low"))
        self.assert_refused(yard, InvalidKind, {"kind": "Low"}, ("open", "c", "Low"))
        self.assert_refused(yard, UnknownLine, {"line": "c"}, ("close", "c"))
        yard = thousand(rest=(("enter", "a", 5),))
        self.assert_refused(yard, HeightTaken, {"height": 5}, ("enter", "a", 5))
        self.assert_refused(yard, LineInUse, {"line": "a"}, ("close", "a"))
        self.assert_refused(thousand(plan="a"), LastLine, {}, ("close", "a"))
        self.assert_refused(thousand(plan=EIGHT), TooManyLines, {"count": 8}, ("open", "i", "low"))
        people = tuple([("enter", "b", height) for height in range(100, 140)])
        yard = thousand(rest=people)
        self.assert_refused(yard, TooManyPeople, {"count": 40}, ("enter", "b", 7))


class UndoTest(YardCase):
    def test_the_example_of_the_document(self):
        yard = three()
        yard.go()
        self.assertIsNone(yard.undo())
        self.assertEqual([yard.crowd(), yard.gone(), len(yard.log())], [(("a", (5, 1)), ("b", (3,))), (), 3])

    def test_an_empty_log(self):
        yard = Yard(PLAN)
        before = state_of(yard)
        self.assert_error(NothingToUndo, {}, yard.undo)
        self.assertEqual(state_of(yard), before)
        yard.enter("a", 7)
        yard.undo()
        self.assert_error(NothingToUndo, {}, yard.undo)
        self.assertEqual(state_of(yard), before)

    def test_after_each_deed(self):
        for deed in [("enter", "b", 7), ("leave", 5), ("leave", 3), ("go",), ("open", "c", "low")]:
            yard = three()
            before = state_of(yard)
            perform(yard, deed)
            self.assertNotEqual(state_of(yard), before)
            self.assertIsNone(yard.undo())
            self.assertEqual(state_of(yard), before)
        yard = make_yard(("enter", "b", 7))
        before = state_of(yard)
        yard.close_line("a")
        yard.undo()
        self.assertEqual(state_of(yard), before)

    def test_several_deeds_at_once_are_taken_back_one_by_one(self):
        yard = three()
        before = state_of(yard)
        yard.do_all((("go",), ("enter", "b", 7), ("go",)))
        yard.undo()
        self.assert_state(yard, PLAN, (("a", (5, 1)), ("b", (7,))), (3,), before[4] + (("go",), ("enter", "b", 7)))
        yard.undo()
        yard.undo()
        self.assertEqual(state_of(yard), before)

    def test_as_many_undos_as_deeds_lead_back(self):
        chance = random.Random(101)
        for plan in PLANS:
            yard = Yard(plan)
            states = [state_of(yard)]
            while len(states) < 60:
                deed = draw_deed(chance, yard)
                try:
                    perform(yard, deed)
                except (LookupError, ArithmeticError):
                    self.assertEqual(state_of(yard), states[-1])
                else:
                    states.append(state_of(yard))
                    self.assertEqual(replay(plan, yard.log()), yard)
            for state in states[-2::-1]:
                yard.undo()
                self.assertEqual(state_of(yard), state)
            self.assert_error(NothingToUndo, {}, yard.undo)


class DoAllTest(YardCase):
    def test_the_examples_of_the_document(self):
        yard = three()
        before = state_of(yard)
        deeds = (("go",), ("enter", "b", 7), ("enter", "b", 3), ("enter", "a", 3))
        self.assert_error(HeightTaken, {"height": 3}, yard.do_all, deeds)
        self.assertEqual(state_of(yard), before)
        done = yard.do_all((("go",), ("enter", "b", 7), ("go",)))
        self.assertEqual([done, yard.crowd()], [(3, None, 5), (("a", (1,)), ("b", (7,)))])

    def test_all_deeds(self):
        deeds = (("enter", "a", 4), ("open", "c", "high"), ("enter", "c", 9), ("go",), ("leave", 4),
                 ("close", "b"))
        for passed in [{}, {"watch": None}]:
            yard = Yard(PLAN)
            answers = yard.do_all(deeds, **passed)
            self.assertEqual(answers, (None, None, None, 9, None, None))
            self.assert_plain(answers)
            self.assert_state(yard, ("high", ("a", "c")), (), (9,), deeds)
            for deed, logged in zip(deeds, yard.log()):
                self.assertIs(deed, logged)
        self.assertEqual(Yard(PLAN).do_all(deeds=deeds), answers)

    def test_no_deeds(self):
        yard = three()
        before = state_of(yard)
        seen = []
        self.assertEqual(yard.do_all((), watch=lambda *told: seen.append(told)), ())
        self.assertEqual(state_of(yard), before)
        self.assertEqual(seen, [])

    def test_deeds_are_done_as_by_the_methods(self):
        chance = random.Random(103)
        for plan in PLANS:
            yard = Yard(plan)
            answers = []
            for _ in range(40):
                try:
                    answers.append(perform(yard, draw_deed(chance, yard)))
                except (LookupError, ArithmeticError):
                    pass
            other = Yard(plan)
            self.assertEqual(other.do_all(yard.log()), tuple(answers))
            self.assertEqual(state_of(other), state_of(yard))

    def test_elements_that_are_no_deeds(self):
        wrongs = other_values() + [
            (), ("enter",), ("enter", "a"), ("enter", "a", 7, 8), ["enter", "a", 7], "go", ("go", "a"), ["go"],
            ("leave",), ("leave", 5, 5), ("open", "c"), ("open", "c", "low", "high"), ("close",),
            ("close", "a", "b"), ("undo",), ("Go",), ("go ",), ("open_line", "c", "low"), (("go",),), (None,),
            (Agreeing(),), (["go"],), (7, 7), (b"go",), ("do_all", ()), ("say", "go"),
        ]
        for wrong in wrongs:
            yard = three()
            before = state_of(yard)
            seen = []
            for deeds, index in [((wrong,), 0), ((("go",), wrong), 1), ((("enter", "z", 0), wrong, wrong), 1),
                                 ((("go",),) * 5 + (wrong, ("go",)), 5)]:
                with self.subTest(wrong=wrong, index=index):
                    self.assert_error(InvalidDeed, {"index": index}, yard.do_all, deeds)
                    self.assert_error(InvalidDeed, {"index": index},
                                      lambda: yard.do_all(deeds, watch=lambda *told: seen.append(told)))
                    self.assertEqual(state_of(yard), before)
            self.assertEqual(seen, [])

    def test_no_tuple(self):
        for value in other_values() + [[("go",)], "go", {("go",): 1}]:
            if not isinstance(value, tuple):
                yard = three()
                before = state_of(yard)
                self.assert_error(InvalidDeed, {"index": None}, yard.do_all, value)
                self.assertEqual(state_of(yard), before)

    def test_a_log_that_gets_full(self):
        yard = make_yard(*(("enter", "a", 1), ("leave", 1)) * 499)
        before = state_of(yard)
        deeds = (("enter", "a", 2), ("enter", "b", 3), ("go",))
        self.assert_error(TooManyDeeds, {"count": 1000}, yard.do_all, deeds)
        self.assertEqual(state_of(yard), before)
        self.assertEqual(yard.do_all(deeds[:2]), (None, None))
        self.assert_error(TooManyDeeds, {"count": 1000}, yard.go)
        yard.undo()
        self.assertEqual(yard.go(), 2)


class WatchTest(YardCase):
    def test_what_the_function_gets(self):
        yard = three()
        twin = three()
        seen = []

        def watch(told, index):
            self.assertIs(told, yard)
            self.assertIs(told.busy, True)
            perform(twin, deeds[index])
            state = state_of(told)
            self.assertEqual(state[:5] + state[6:], state_of(twin)[:5] + state_of(twin)[6:])
            self.assertEqual(told, twin)
            seen.append(index)
            return "nothing"

        deeds = (("go",), ("open", "c", "high"), ("enter", "c", 3), ("leave", 5), ("go",))
        self.assertEqual(yard.do_all(deeds, watch=watch), (3, None, None, None, 3))
        self.assertEqual(seen, [0, 1, 2, 3, 4])
        self.assertEqual(state_of(yard), state_of(twin))
        self.assertIs(yard.busy, False)

    def test_a_deed_that_is_refused(self):
        for place, deed, error in [(0, ("leave", 9), UnknownHeight), (2, ("close", "a"), LineInUse),
                                   (3, ("enter", "b", 0), InvalidHeight)]:
            yard = three()
            before = state_of(yard)
            seen = []
            deeds = (("go",), ("open", "c", "high"), ("enter", "c", 9))[:place] + (deed, ("go",))
            with self.assertRaises(error):
                yard.do_all(deeds, watch=lambda told, index: seen.append((index, told.busy, len(told.log()))))
            self.assertEqual(seen, [(index, True, 4 + index) for index in range(place)])
            self.assertEqual(state_of(yard), before)
            self.assertIs(yard.busy, False)
            yard.do_all((("go",),))
            self.assertEqual(yard.gone(), (3,))

    def test_a_function_that_raises_an_error(self):
        for error in [OwnError("so"), ValueError("so"), NobodyWaits(), KeyError(7), StopIteration()]:
            for place in range(3):
                yard = three()
                before = state_of(yard)

                def watch(told, index):
                    if index == place:
                        raise error

                with self.assertRaises(type(error)) as held:
                    yard.do_all((("go",), ("open", "c", "low"), ("enter", "c", 7)), watch=watch)
                self.assertIs(held.exception, error)
                self.assertEqual(state_of(yard), before)
                self.assertIs(yard.busy, False)
                yard.undo()
                self.assertEqual(yard.log(), before[4][:2])

    def test_the_deeds_are_checked_before_the_function_is_called(self):
        seen = []
        for deeds in [(("go",), "go"), [("go",)]]:
            with self.assertRaises(InvalidDeed):
                three().do_all(deeds, watch=lambda *told: seen.append(told))
        self.assertEqual(seen, [])

    def test_only_by_name(self):
        with self.assertRaises(TypeError):
            three().do_all((("go",),), None)

    def test_other_yards_may_be_used_meanwhile(self):
        yard = three()
        other = Yard(PLAN)
        yard.do_all((("go",), ("go",)), watch=lambda told, index: other.do_all((("enter", "a", 7 + index),)))
        self.assertEqual(other.crowd(), (("a", (7, 8)),))
        self.assertEqual(yard.gone(), (3, 5))

    def test_a_call_of_no_deeds_does_not_end_the_call_around_it(self):
        yard = three()
        seen = []
        yard.do_all((("go",),), watch=lambda told, index: seen.append((told.do_all(()), told.busy)))
        self.assertEqual(seen, [((), True)])
        self.assertIs(yard.busy, False)


class ReplayTest(YardCase):
    def test_the_example_of_the_document(self):
        yard = replay(PLAN, (("enter", "a", 3), ("enter", "b", 5), ("go",)))
        self.assertEqual(yard.crowd(), (("b", (5,)),))
        self.assertIs(type(yard), Yard)

    def test_the_beginnings_of_a_log(self):
        chance = random.Random(107)
        for plan in PLANS:
            yard = Yard(plan)
            states = [state_of(yard)]
            for _ in range(40):
                try:
                    perform(yard, draw_deed(chance, yard))
                except (LookupError, ArithmeticError):
                    continue
                states.append(state_of(yard))
            log = yard.log()
            for count, state in enumerate(states):
                self.assertEqual(state_of(replay(plan, log[:count])), state)
            self.assertEqual(replay(log=log, plan=plan), yard)

    def test_deeds_that_are_none_or_are_refused(self):
        good = (("enter", "a", 3), ("enter", "b", 5), ("go",))
        wrongs = other_values() + [
            (), "go", ["go"], ("go", 1), ("enter", "b"), ("undo",), ("enter", "z", 7), ("enter", "a", 0),
            ("enter", "a", 5), ("leave", 3), ("leave", None), ("open", "A", "low"), ("open", "a", "low"),
            ("open", "c", "Low"), ("close", "c"), ("close", "b"), (Agreeing(),),
        ]
        for wrong in wrongs:
            with self.subTest(wrong=wrong):
                self.assert_error(InvalidDeed, {"index": 3}, replay, PLAN, good + (wrong,))
                self.assert_error(InvalidDeed, {"index": 3}, replay, PLAN, good + (wrong, None, ("leave", 9)))
                self.assert_error(InvalidDeed, {"index": 0}, replay, "z", (("leave", 5), wrong))
        self.assert_error(InvalidDeed, {"index": 0}, replay, PLAN, (("go",), None))
        self.assert_error(InvalidDeed, {"index": 0}, replay, "a", (("close", "a"),))
        self.assert_error(InvalidDeed, {"index": 1}, replay, EIGHT, (("enter", "a", 7), ("open", "i", "low")))
        people = tuple([("enter", "a", height) for height in range(1, 42)])
        self.assert_error(InvalidDeed, {"index": 40}, replay, PLAN, people)

    def test_no_tuple(self):
        for value in other_values() + [[("go",)], "go"]:
            if not isinstance(value, tuple):
                self.assert_error(InvalidDeed, {"index": None}, replay, PLAN, value)

    def test_invalid_plans_come_first(self):
        for value in no_plans():
            for log in [(), None, (None,)]:
                self.assert_error(InvalidPlan, {"value": value}, replay, value, log)

    def test_a_thousand_deeds_and_one_more(self):
        log = (("enter", "a", 1), ("leave", 1)) * 500
        self.assertEqual(replay(PLAN, log).log(), log)
        self.assert_error(InvalidDeed, {"index": 1000}, replay, PLAN, log + (("enter", "a", 1),))
        self.assert_error(InvalidDeed, {"index": 1000}, replay, PLAN, log + log)

    def test_by_position_and_by_name(self):
        log = (("enter", "a", 3), ("enter", "b", 5), ("go",))
        before = copy.deepcopy(log)
        self.assertEqual(replay(PLAN, log), replay(log=log, plan=PLAN))
        self.assertEqual(log, before)
        self.assertIsNot(replay(PLAN, log), replay(PLAN, log))


class EqualTest(YardCase):
    def assert_equal(self, yard, other, equal):
        for one, two in [(yard, other), (other, yard)]:
            self.assertIs(one == two, equal)
            self.assertIs(one != two, not equal)

    def test_yards_that_are_the_same_by_other_ways(self):
        self.assert_equal(Yard(PLAN), Yard(PLAN), True)
        yard = three()
        self.assert_equal(yard, yard, True)
        self.assert_equal(yard, make_yard(("enter", "b", 3), ("enter", "a", 5), ("enter", "a", 1)), True)
        self.assert_equal(yard, make_yard(*THREE_DEEDS, ("enter", "b", 7), ("leave", 7)), True)
        self.assert_equal(yard, make_yard(*THREE_DEEDS, ("open", "c", "low"), ("close", "c")), True)
        other = three()
        other.go()
        self.assert_equal(yard, other, False)
        other.undo()
        self.assert_equal(yard, other, True)

    def test_yards_that_are_not_the_same(self):
        yard = three()
        others = [
            Yard(PLAN), make_yard(*THREE_DEEDS[:2]), make_yard(*THREE_DEEDS, plan=("low", ("b", "a"))),
            make_yard(*THREE_DEEDS, plan=("high", ("a", "b"))), make_yard(*THREE_DEEDS, ("open", "c", "low")),
            make_yard(("enter", "a", 1), ("enter", "b", 3), ("enter", "a", 5)),
            make_yard(("enter", "b", 5), ("enter", "a", 3), ("enter", "b", 1)),
            make_yard(("enter", "a", 9), ("go",), *THREE_DEEDS),
            make_yard(*THREE_DEEDS, ("go",), ("enter", "b", 3)),
        ]
        for other in others:
            self.assert_equal(yard, other, False)

    def test_other_values(self):
        yard = three()
        for other in other_values() + [PLAN, str(yard), repr(yard), yard.crowd(), 3, yard.log()]:
            self.assertIs(yard == other, False)
            self.assertIs(yard != other, True)


if __name__ == "__main__":
    unittest.main()
