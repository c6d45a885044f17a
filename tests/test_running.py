import itertools
import random
import unittest

from frontmeets.errors import (
    HeightTaken, InvalidCrowd, InvalidHeight, InvalidPlan, TooManyPeople, UnknownLine,
)
from frontmeets.plans import flatten
from frontmeets.running import exchanged, is_crowd, next_person, run_plan, source_lines
from tests.checks import Case
from tests.definitions import lines_in, result_of
from tests.samples import (
    PLANS, Agreeing, draw_crowd, draw_plans, left_comb, no_plans, other_values, right_comb,
)

PLAN = ("low", ("a", ("high", ("b", "c"))))
CROWD = (("a", (5, 1)), ("b", (2, 6)), ("c", (4, 3)))
DEEP = left_comb(["low", "high"] * 3 + ["low"])
FORTY = tuple([17 * place % 41 for place in range(1, 41)])
SAMPLES = list(PLANS) + draw_plans(8)
RUNS = (run_plan, source_lines, next_person)


def draw_cases(most=40):
    """Return pairs of a plan and a crowd of its lines, the same ones each time."""
    chance = random.Random(7)
    return [(plan, draw_crowd(chance, lines_in(plan), most)) for plan in SAMPLES for _ in range(6)]


def exchanged_by_definition(plan, crowd, line, height):
    """Return the pairs of people who change their order, from the two results."""
    waiting = dict(crowd)
    before = result_of(plan, waiting)
    waiting[line] = waiting.get(line, ()) + (height,)
    after = [person for person in result_of(plan, waiting) if person != height]
    return tuple(sorted([
        (first, second) for first, second in itertools.permutations(before, 2)
        if before.index(first) < before.index(second) and after.index(first) > after.index(second)
    ]))


class IsCrowdTest(Case):
    def test_the_interface(self):
        self.assert_interface(is_crowd, "frontmeets.running", ["value"])

    def test_the_example_of_the_document(self):
        values = [(), (("a", (5, 1)), ("b", ())), (("a", (5, 1)), ("b", (5,)))]
        self.assertEqual([is_crowd(value) for value in values], [True, True, False])

    def test_crowds(self):
        crowds = [(("a", FORTY),), (("a", ()),), (("low", (1,)), ("z", (999,))), CROWD,
                  tuple([(line, (height,)) for height, line in enumerate("abcdefgh", 1)]),
                  tuple([(line, ()) for line in "abcdefgh"]), (("a", ()), ("aa", ()), ("ab", ())),
                  tuple([(line, FORTY[5 * place:5 * place + 5]) for place, line in enumerate("abcdefgh")])]
        for crowd in crowds + [crowd for _, crowd in draw_cases()]:
            with self.subTest(crowd=crowd):
                self.assertIs(is_crowd(crowd), True)

    def test_by_position_and_by_name(self):
        self.assert_calls(is_crowd, ["value"], (CROWD,), True)
        self.assert_calls(is_crowd, ["value"], (CROWD[::-1],), False)
        value = [["a", [5, 1]]]
        self.assertIs(is_crowd(value=value), False)
        self.assertEqual(value, [["a", [5, 1]]])


class RunPlanTest(Case):
    def test_the_interface(self):
        for function in RUNS:
            self.assert_interface(function, "frontmeets.running", ["plan", "crowd"])

    def test_the_examples_of_the_document(self):
        self.assertEqual(run_plan(PLAN, CROWD), (4, 3, 2, 5, 1, 6))
        self.assertEqual(source_lines(PLAN, CROWD), ("c", "c", "b", "a", "a", "b"))
        self.assertEqual([next_person(PLAN, CROWD), next_person(PLAN, ())], [4, None])
        self.assert_error(UnknownLine, {"line": "d"}, run_plan, ("low", ("a", "b")), (("a", ()), ("d", ())))

    def test_nobody(self):
        for plan in SAMPLES:
            lines = sorted(lines_in(plan))
            for crowd in [(), ((lines[0], ()),), tuple([(line, ()) for line in lines])]:
                self.assertEqual(run_plan(plan, crowd), ())
                self.assertEqual(source_lines(plan, crowd), ())
                self.assertIsNone(next_person(plan, crowd))

    def test_one_line(self):
        for row in [(7,), (1, 2, 3), (3, 2, 1), FORTY]:
            self.assertEqual(run_plan("low", (("low", row),)), row)
            self.assertEqual(source_lines("low", (("low", row),)), ("low",) * len(row))
            self.assertEqual(next_person("low", (("low", row),)), row[0])

    def test_lines_that_are_not_in_the_crowd_are_empty(self):
        self.assertEqual(run_plan(PLAN, (("c", (4, 3)),)), (4, 3))
        for plan, crowd in draw_cases():
            full = dict([(line, ()) for line in lines_in(plan)] + list(crowd))
            whole = tuple(sorted(full.items()))
            self.assertEqual(run_plan(plan, crowd), run_plan(plan, whole))
            self.assertEqual(source_lines(plan, crowd), source_lines(plan, whole))
            self.assertEqual(next_person(plan, crowd), next_person(plan, whole))

    def test_against_the_definition(self):
        for plan, crowd in draw_cases():
            with self.subTest(plan=plan, crowd=crowd):
                row = result_of(plan, dict(crowd))
                sources = {height: line for line, people in crowd for height in people}
                self.assertEqual(run_plan(plan, crowd), row)
                self.assertEqual(source_lines(plan, crowd), tuple([sources[height] for height in row]))
                self.assertEqual(next_person(plan, crowd), row[0] if row else None)

    def test_the_front_that_goes_at_each_junction_of_a_deep_plan(self):
        # Only one person waits in each line; each junction decides between its two fronts.
        crowd = tuple([(line, (height,)) for line, height in zip("abcdefgh", (5, 4, 6, 3, 7, 2, 8, 1))])
        self.assertEqual(next_person(DEEP, crowd), 1)
        self.assertEqual(next_person(DEEP, crowd[:7]), 8)
        self.assertEqual(next_person(DEEP, crowd[:6]), 2)
        self.assertEqual(next_person(DEEP, crowd[:5]), 7)
        self.assertEqual(next_person(DEEP, crowd[:4]), 3)
        self.assertEqual(next_person(DEEP, crowd[:3]), 6)
        self.assertEqual(next_person(DEEP, crowd[:2]), 4)
        plan = right_comb(["high", "low", "high"])
        crowd = (("a", (1,)), ("b", (9,)), ("c", (2,)), ("d", (8,)))
        self.assertEqual(run_plan(plan, crowd), (8, 2, 9, 1))
        self.assertEqual(source_lines(plan, crowd), ("d", "c", "b", "a"))

    def test_forty_people(self):
        for plan in [DEEP, PLANS[-1], ("high", tuple("abcdefgh"))]:
            crowd = tuple([(line, FORTY[5 * place:5 * place + 5]) for place, line in enumerate("abcdefgh")])
            row = result_of(plan, dict(crowd))
            self.assertEqual(len(row), 40)
            self.assertEqual(run_plan(plan, crowd), row)
            self.assertEqual(len(source_lines(plan, crowd)), 40)
            self.assertEqual(next_person(plan, crowd), row[0])

    def test_plans_with_the_same_effect(self):
        for plan, crowd in draw_cases():
            self.assertEqual(run_plan(flatten(plan), crowd), run_plan(plan, crowd))

    def test_by_position_and_by_name(self):
        names = ["plan", "crowd"]
        self.assert_calls(run_plan, names, (PLAN, CROWD), (4, 3, 2, 5, 1, 6))
        self.assert_calls(source_lines, names, (PLAN, CROWD), ("c", "c", "b", "a", "a", "b"))
        self.assert_calls(next_person, names, (PLAN, CROWD), 4)
        self.assert_calls(next_person, names, (PLAN, ()), None)


class WrongCrowdTest(Case):
    def assert_crowd(self, crowd, index, plan=PLAN):
        self.assertIs(is_crowd(crowd), False)
        for function in RUNS:
            self.assert_error(InvalidCrowd, {"index": index}, function, plan, crowd)
        for line, height in [("a", 7), ("z", 0)]:
            self.assert_error(InvalidCrowd, {"index": index}, exchanged, plan, crowd, line, height)

    def assert_line(self, crowd, line, plan=PLAN):
        self.assertIs(is_crowd(crowd), True)
        for function in RUNS:
            self.assert_error(UnknownLine, {"line": line}, function, plan, crowd)
        for entry in [("a", 7), ("y", 0)]:
            self.assert_error(UnknownLine, {"line": line}, exchanged, plan, crowd, *entry)

    def test_no_tuple(self):
        for crowd in other_values() + [list(CROWD), [], "a", {"a": (5,)}, {("a", ())}, 7, dict(CROWD)]:
            if not isinstance(crowd, tuple):
                with self.subTest(crowd=crowd):
                    self.assert_crowd(crowd, None)

    def test_nine_lines(self):
        crowd = tuple([(line, ()) for line in "abcdefghi"])
        self.assert_crowd(crowd, None)
        self.assert_crowd(crowd[:8] + (None,), None)
        self.assert_crowd((None,) + crowd[:8], None)
        self.assert_crowd((("a", (5,)),) * 9, None)
        self.assert_crowd(crowd, None, plan=("low", tuple("abcdefgh")))

    def test_an_element_that_is_no_pair_of_a_line_and_a_row(self):
        wrongs = other_values() + [
            ["b", (7,)], ("b", [7]), ("b",), ("b", (7,), ()), (), "b", ("b", 7), ("b", None), ("B", (7,)),
            ("", (7,)), ("bcdefgh", (7,)), ("b ", (7,)), (b"b", (7,)), (None, (7,)), (("b",), (7,)),
            (["b"], (7,)), ((7,), "b"), ("b", (0,)), ("b", (1000,)), ("b", (True,)), ("b", (2, True)),
            ("b", (7, 7)), ("b", tuple(range(1, 42))), ("b", ((7,),)), ("b", {7}), ("b", "7"),
            (Agreeing(), (7,)), ("b", Agreeing()), ("b", (Agreeing(),)), ("b", ("low",)),
        ]
        for wrong in wrongs:
            with self.subTest(wrong=wrong):
                self.assert_crowd((wrong,), 0)
                self.assert_crowd((("a", (5, 1)), wrong), 1)
                self.assert_crowd((("a", ()), wrong, ("c", ())), 1)

    def test_lines_that_do_not_ascend(self):
        self.assert_crowd((("b", ()), ("a", ())), 1)
        self.assert_crowd((("a", (1,)), ("a", (2,))), 1)
        self.assert_crowd((("a", ()), ("c", ()), ("b", ())), 2)
        self.assert_crowd((("a", ()), ("b", ()), ("a", ())), 2)
        self.assert_crowd((("b", ()), ("aa", ())), 1)
        self.assert_crowd((("aa", ()), ("a", ())), 1)

    def test_a_height_twice(self):
        self.assert_crowd((("a", (5, 5)),), 0)
        self.assert_crowd((("a", (5,)), ("b", (6, 7, 6))), 1)
        self.assert_crowd((("a", (5, 1)), ("b", (2, 5))), 1)
        self.assert_crowd((("a", (5, 1)), ("b", ()), ("c", (2, 1))), 2)

    def test_more_than_forty_people(self):
        self.assert_crowd((("a", FORTY), ("b", (41,))), 1)
        self.assert_crowd((("a", FORTY), ("b", ()), ("c", (500, 501))), 2)
        self.assert_crowd((("a", FORTY[:30]), ("b", tuple(range(100, 111)))), 1)
        self.assert_crowd((("a", tuple(range(1, 42))),), 0)
        self.assertEqual(len(run_plan(PLAN, (("a", FORTY[:30]), ("b", tuple(range(100, 110)))))), 40)

    def test_the_first_wrong_element_counts(self):
        self.assert_crowd((("a", (5,)), ("b", (5,)), None), 1)
        self.assert_crowd((("b", (5,)), ("a", (5,)), ("c", (0,))), 1)
        self.assert_crowd((("a", FORTY), ("b", (41,)), ("c", [42])), 1)
        self.assert_crowd((("A", ()), ("a", (1, 1))), 0)

    def test_lines_that_are_not_in_the_plan(self):
        self.assert_line((("d", ()),), "d")
        self.assert_line((("a", (5,)), ("aa", ()), ("d", (1,))), "aa")
        self.assert_line((("a", (5,)), ("b", (1,)), ("low", (7,))), "low")
        self.assert_line((("x", ()), ("y", ()), ("z", ())), "x")
        self.assert_line((("a", ()), ("b", ())), "a", plan="low")

    def test_invalid_crowds_come_before_unknown_lines(self):
        self.assert_crowd((("d", ()), ("c", ())), 1)
        self.assert_crowd((("x", (5,)), ("y", (5,))), 1)
        self.assert_crowd((("d", ()), None), 1)

    def test_invalid_plans_come_first(self):
        for value in no_plans():
            for crowd in [CROWD, (), None, [], (("z", ()),), (("b", ()), ("a", ()))]:
                with self.subTest(value=value, crowd=crowd):
                    for function in RUNS:
                        self.assert_error(InvalidPlan, {"value": value}, function, value, crowd)
                    self.assert_error(InvalidPlan, {"value": value}, exchanged, value, crowd, "z", 0)

    def test_by_name(self):
        crowd = (("a", (5,)), ["b", [6]])
        for function in RUNS:
            with self.assertRaises(InvalidCrowd) as held:
                function(crowd=crowd, plan=PLAN)
            self.assertEqual(held.exception.index, 1)
        with self.assertRaises(InvalidCrowd) as held:
            exchanged(height=0, line=None, crowd=crowd, plan=PLAN)
        self.assertEqual(held.exception.index, 1)
        self.assertEqual(crowd, (("a", (5,)), ["b", [6]]))


class ExchangedTest(Case):
    def test_the_interface(self):
        self.assert_interface(exchanged, "frontmeets.running", ["plan", "crowd", "line", "height"])

    def test_the_example_of_the_document(self):
        self.assertEqual(exchanged(PLAN, (("a", (4,)), ("b", (3, 1))), "c", 5), ((1, 4), (3, 4)))

    def test_nobody_waits(self):
        for line in "abc":
            self.assertEqual(exchanged(PLAN, (), line, 5), ())
            self.assertEqual(exchanged(PLAN, ((line, ()),), line, 999), ())

    def test_the_end_of_the_line(self):
        plan = ("low", (("high", ("a", "b")), "c"))
        self.assertEqual(exchanged(plan, (("a", (9, 2)), ("b", (5,)), ("c", (4,))), "a", 1), ())
        self.assertEqual(exchanged(plan, (("b", (5, 2)), ("c", (8,))), "b", 9), ())
        self.assertEqual(exchanged(plan, (("b", (5, 2)), ("c", (8,))), "a", 9), ((2, 8), (5, 8)))

    def test_against_the_definition(self):
        chance = random.Random(13)
        found = 0
        for plan, crowd in draw_cases(39):
            taken = [height for _, row in crowd for height in row]
            for line in lines_in(plan):
                height = chance.choice([person for person in range(1, 1000) if person not in taken])
                pairs = exchanged(plan, crowd, line, height)
                self.assertEqual(pairs, exchanged_by_definition(plan, crowd, line, height))
                self.assertEqual(pairs, tuple(sorted(pairs)))
                found += len(pairs)
        self.assertGreater(found, 300)

    def test_junctions_of_one_kind_exchange_nobody(self):
        chance = random.Random(17)
        for kind in ("low", "high"):
            for plan in [left_comb([kind] * 7), right_comb([kind] * 7), (kind, tuple("hgfedcba")), "abc"]:
                for _ in range(10):
                    crowd = draw_crowd(chance, lines_in(plan), 39)
                    taken = [height for _, row in crowd for height in row]
                    height = chance.choice([person for person in range(1, 1000) if person not in taken])
                    for line in lines_in(plan):
                        self.assertEqual(exchanged(plan, crowd, line, height), ())

    def test_with_39_people_one_more_can_enter(self):
        for line in "abc":
            crowd = (("a", FORTY[:20]), ("b", FORTY[20:39]))
            self.assertEqual(exchanged(PLAN, crowd, line, 500),
                             exchanged_by_definition(PLAN, crowd, line, 500))

    def test_an_unknown_line(self):
        for line in other_values() + ["d", "aa", "A", "", ("a",), ["a"], PLAN, Agreeing()]:
            with self.subTest(line=line):
                for height in (7, 5, 0, None, True):
                    self.assert_error(UnknownLine, {"line": line}, exchanged, PLAN, CROWD, line, height)

    def test_an_invalid_height(self):
        full = (("a", FORTY),)
        for height in other_values() + [0, 1000, -5, "5", (5,), [5], True, False]:
            with self.subTest(height=height):
                for crowd in (CROWD, (), full):
                    self.assert_error(InvalidHeight, {"height": height}, exchanged, PLAN, crowd, "b", height)

    def test_a_height_that_is_taken(self):
        for height in range(1, 7):
            for line in "abc":
                self.assert_error(HeightTaken, {"height": height}, exchanged, PLAN, CROWD, line, height)
        for height in (1, 40):
            self.assert_error(HeightTaken, {"height": height}, exchanged, PLAN, (("a", FORTY),), "b", height)

    def test_too_many_people(self):
        for line in "abc":
            self.assert_error(TooManyPeople, {"count": 40}, exchanged, PLAN, (("a", FORTY),), line, 41)
        crowd = (("a", FORTY[:20]), ("b", FORTY[20:]))
        self.assert_error(TooManyPeople, {"count": 40}, exchanged, PLAN, crowd, "c", 999)

    def test_by_position_and_by_name(self):
        names = ["plan", "crowd", "line", "height"]
        values = (PLAN, (("a", (4,)), ("b", (3, 1))), "c", 5)
        self.assert_calls(exchanged, names, values, ((1, 4), (3, 4)))


if __name__ == "__main__":
    unittest.main()
