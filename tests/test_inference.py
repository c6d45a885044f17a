import itertools
import math
import random
import unittest
from fractions import Fraction

from frontmeets.errors import (
    InvalidCrowd, InvalidPlan, InvalidRow, InvalidRun, InvalidShare, OtherPeople, UnknownLine,
)
from frontmeets.inference import chance, count_kinds, find_kinds, possible_kinds
from frontmeets.running import run_plan
from tests.checks import Case
from tests.definitions import junctions_in, kinds_that_fit, lines_in, result_of, shapes_of
from tests.samples import (
    PLANS, Agreeing, draw_crowd, draw_plans, left_comb, no_plans, other_values, right_comb,
)

PLAN = ("low", ("a", ("high", ("b", "c"))))
CROWD = (("a", (5, 1)), ("b", (2, 6)), ("c", (4, 3)))
ROW = (4, 3, 2, 5, 1, 6)
RUN = (CROWD, ROW)
FORTY = tuple([17 * place % 41 for place in range(1, 41)])
DEEP = left_comb(["low", "high"] * 3 + ["low"])
SAMPLES = list(PLANS) + draw_plans(6)
FOUND = (possible_kinds, find_kinds, count_kinds)


def low_parts(plan):
    """Return how many junctions of the plan are low."""
    return len([0 for _, junction in junctions_in(plan) if junction[0] == "low"])


def explaining(plan, runs):
    """Return the list of the plans of the same shape that explain all runs."""
    return [
        shape for shape in shapes_of(plan)
        if all([result_of(shape, dict(crowd)) == row for crowd, row in runs])
    ]


def draw_runs(drawn, plan, count, most):
    """Return so many runs of one plan of the same shape, with at most so many people each."""
    shape = drawn.choice(shapes_of(plan))
    crowds = [draw_crowd(drawn, lines_in(plan), most) for _ in range(count)]
    return tuple([(crowd, run_plan(shape, crowd)) for crowd in crowds])


def exchange_two(drawn, runs):
    """Return the runs in which two people of one row have changed places, if it has two."""
    index = drawn.randrange(len(runs))
    crowd, row = runs[index]
    if len(row) < 2:
        return runs
    changed = list(row)
    place, other = drawn.sample(range(len(row)), 2)
    changed[place], changed[other] = changed[other], changed[place]
    return runs[:index] + ((crowd, tuple(changed)),) + runs[index + 1:]


class KindsTest(Case):
    def assert_kinds(self, plan, runs):
        self.assertEqual(possible_kinds(plan, runs), kinds_that_fit(plan, runs))
        shapes = explaining(plan, runs)
        self.assertEqual(count_kinds(plan, runs), len(shapes))
        found = find_kinds(plan, runs)
        if shapes:
            self.assertIn(found, shapes)
            # Of all that explain the runs, it is the one with the most low junctions.
            self.assertEqual([shape for shape in shapes if low_parts(shape) >= low_parts(found)], [found])
        else:
            self.assertIsNone(found)
        return len(shapes)

    def test_the_interface(self):
        for function in FOUND:
            self.assert_interface(function, "frontmeets.inference", ["plan", "runs"])

    def test_the_examples_of_the_document(self):
        plan = ("low", ("a", ("low", ("b", "c"))))
        self.assertEqual(possible_kinds(plan, (RUN,)), (((), ("low",)), ((1,), ("high",))))
        self.assertEqual(find_kinds(("high", ("a", ("low", ("b", "c")))), (RUN,)), PLAN)
        runs = (((("a", (2, 1)),), (2, 1)),)
        self.assertEqual([count_kinds(plan, (RUN,)), count_kinds(plan, runs)], [1, 4])
        self.assertEqual([function("a", runs) for function in FOUND], [(), "a", 1])

    def test_a_plan_without_junctions(self):
        for crowd in [(), (("abc", ()),), (("abc", (7,)),), (("abc", FORTY),)]:
            row = crowd[0][1] if crowd else ()
            runs = ((crowd, row),) * 12
            self.assertEqual([function("abc", runs) for function in FOUND], [(), "abc", 1])
        runs = (((("abc", (1, 2)),), (2, 1)),)
        self.assertEqual([function("abc", runs) for function in FOUND], [None, None, 0])

    def test_nobody_waits(self):
        for plan in SAMPLES:
            runs = (((), ()),)
            junctions = sorted(junctions_in(plan), key=lambda pair: pair[0])
            self.assertEqual(
                possible_kinds(plan, runs), tuple([(path, ("high", "low")) for path, _ in junctions])
            )
            self.assertEqual(count_kinds(plan, runs), 2 ** len(junctions))
            self.assertEqual(low_parts(find_kinds(plan, runs)), len(junctions))

    def test_runs_of_a_plan_of_this_shape(self):
        drawn = random.Random(71)
        counts = []
        for plan in SAMPLES:
            for most in (2, 4, 12, 40):
                runs = draw_runs(drawn, plan, drawn.randint(1, 3), most)
                counts.append(self.assert_kinds(plan, runs))
                self.assertGreaterEqual(counts[-1], 1)
        self.assertGreater(len([count for count in counts if count > 1]), 50)
        self.assertGreater(counts.count(1), 50)

    def test_runs_with_two_people_exchanged(self):
        drawn = random.Random(73)
        counts = []
        broken = 0
        for plan in SAMPLES:
            for most in (3, 5, 9):
                runs = exchange_two(drawn, draw_runs(drawn, plan, drawn.randint(1, 3), most))
                counts.append(self.assert_kinds(plan, runs))
                broken += possible_kinds(plan, runs) is None
        self.assertGreater(counts.count(0), 50)
        self.assertGreater(broken, 20)
        self.assertGreater(counts.count(0) - broken, 10)

    def test_runs_of_plans_of_another_shape(self):
        drawn = random.Random(79)
        counts = []
        for _ in range(60):
            plan, other = drawn.sample([plan for plan in SAMPLES if len(lines_in(plan)) == 5], 2)
            runs = draw_runs(drawn, other, 2, 12)
            if sorted(lines_in(plan)) == sorted(lines_in(other)):
                counts.append(self.assert_kinds(plan, runs))
        self.assertGreater(counts.count(0), 10)

    def test_all_runs_of_three_people(self):
        crowd = (("a", (2,)), ("b", (1,)), ("c", (3,)))
        for plan in [PLAN, ("low", ("a", "b", "c")), ("high", (("high", ("c", "a")), "b"))]:
            for row in itertools.permutations((1, 2, 3)):
                for other in itertools.permutations((1, 2, 3)):
                    self.assert_kinds(plan, ((crowd, row), (crowd, other)))

    def test_runs_that_need_different_kinds(self):
        crowd = (("a", (1,)), ("b", (2,)))
        plan = ("low", ("a", "b"))
        runs = ((crowd, (1, 2)), (crowd, (2, 1)))
        self.assertEqual(possible_kinds(plan, runs), (((), ()),))
        self.assertIsNone(find_kinds(plan, runs))
        self.assertEqual(count_kinds(plan, runs), 0)

    def test_kinds_are_ascending_and_so_are_paths(self):
        plan = ("low", (("high", ("a", ("low", ("b", "c")))), ("low", ("d", "e"))))
        found = possible_kinds(plan, (((("a", (5,)), ("d", (7,)), ("e", (6,))), (5, 6, 7)),))
        self.assertEqual(found, (
            ((), ("low",)), ((0,), ("high", "low")), ((0, 1), ("high", "low")), ((1,), ("low",)),
        ))

    def test_a_line_whose_people_come_in_another_order(self):
        for plan in [PLAN, DEEP, "a"]:
            wrong = ((("a", (5, 1)),), (1, 5))
            good = ((("a", (5, 1)),), (5, 1))
            for runs in [(wrong,), (good, wrong), (wrong, good), (good,) * 11 + (wrong,)]:
                self.assertEqual([function(plan, runs) for function in FOUND], [None, None, 0])

    def test_the_kinds_of_the_plan_do_not_matter(self):
        drawn = random.Random(83)
        for plan in SAMPLES[:24]:
            runs = draw_runs(drawn, plan, 2, 8)
            expected = [function(plan, runs) for function in FOUND]
            for shape in shapes_of(plan):
                self.assertEqual([function(shape, runs) for function in FOUND], expected)

    def test_forty_people_and_twelve_runs(self):
        drawn = random.Random(89)
        for plan in [DEEP, right_comb(["high", "low"] * 3 + ["high"]), PLANS[-1]]:
            crowd = tuple([(line, FORTY[5 * place:5 * place + 5]) for place, line in enumerate("abcdefgh")])
            runs = ((crowd, run_plan(plan, crowd)),) + draw_runs(drawn, plan, 1, 40) * 11
            self.assertEqual(possible_kinds(plan, runs), kinds_that_fit(plan, runs))
            self.assertEqual(count_kinds(plan, runs[:1]), len(explaining(plan, runs[:1])))

    def test_by_position_and_by_name(self):
        names = ["plan", "runs"]
        plan = ("low", ("a", ("low", ("b", "c"))))
        self.assert_calls(possible_kinds, names, (plan, (RUN,)), (((), ("low",)), ((1,), ("high",))))
        self.assert_calls(find_kinds, names, (plan, (RUN,)), PLAN)
        self.assert_calls(count_kinds, names, (plan, (RUN,)), 1)
        wrong = ((CROWD, ROW[::-1]),)
        self.assert_calls(possible_kinds, names, (plan, wrong), None)
        self.assert_calls(find_kinds, names, (plan, wrong), None)
        self.assert_calls(count_kinds, names, (plan, wrong), 0)


class WrongRunsTest(Case):
    def assert_runs(self, runs, index, plan=PLAN):
        for function in FOUND:
            self.assert_error(InvalidRun, {"index": index}, function, plan, runs)

    def test_no_tuple_no_runs_and_too_many(self):
        for value in other_values() + [[RUN], (), (RUN,) * 13, (None,) * 13, {RUN: 1}]:
            if not isinstance(value, tuple) or len(value) in (0, 13):
                with self.subTest(value=value):
                    self.assert_runs(value, None)
        self.assertEqual(count_kinds(PLAN, (RUN,) * 12), 1)

    def test_a_run_alone_is_no_tuple_of_runs(self):
        self.assert_runs(RUN, 0)

    def test_values_that_are_no_runs(self):
        wrongs = other_values() + [
            CROWD, ROW, (CROWD,), (CROWD, ROW, ()), [CROWD, ROW], (list(CROWD), ROW), (CROWD, list(ROW)),
            (ROW, CROWD), (CROWD, ROW[:5]), (CROWD, ROW + (7,)), (CROWD, (4, 3, 2, 5, 1, 7)),
            (CROWD, (4, 3, 2, 5, 1, 1)), (CROWD, (4, 3, 2, 5, True, 6)), (CROWD, ()), ((), ROW),
            (CROWD, (0,)), (CROWD[::-1], ROW), ((("a", (5, 1, 2, 6)), ("b", (4, 4))), ROW),
            ((("a", ROW), ("b", (5,))), ROW), ((("a", ROW), ("A", ())), ROW), ((("a", ROW), None), ROW),
            ((("a", ROW), ("b", [])), ROW), ((("a", ROW), ["b", ()]), ROW), (CROWD, None), (None, ROW),
            ((("a", ROW), ("b", (True,))), ROW), (Agreeing(), ROW), (CROWD, Agreeing()),
            ((("a", ROW), Agreeing()), ROW), (dict(CROWD), ROW), (CROWD, set(ROW)),
            (tuple([(line, ()) for line in "abcdefghi"]), ()), ((("a", tuple(range(1, 42))),), FORTY),
            ((("a", FORTY), ("b", (41,))), FORTY + (41,)), ((("a", FORTY), ("b", (41,))), FORTY),
            ((("a", ROW), ("d", ())), ROW), ((("aa", ()), ("b", ROW)), ROW), ((("d", ()),), ()),
        ]
        for wrong in wrongs:
            with self.subTest(wrong=wrong):
                self.assert_runs((wrong,), 0)
                self.assert_runs((RUN, wrong), 1)
                self.assert_runs((RUN, RUN, wrong, RUN, None), 2)

    def test_lines_of_another_plan(self):
        self.assert_runs((RUN,), 0, plan="a")
        self.assert_runs((((("a", ROW),), ROW), RUN), 1, plan=("low", ("a", "b")))

    def test_invalid_plans_come_first(self):
        for value in no_plans():
            for runs in [(RUN,), (), None, (None,)]:
                for function in FOUND:
                    self.assert_error(InvalidPlan, {"value": value}, function, value, runs)


def chance_of(plan, share, crowd, row):
    """Return the chance, summed over all kinds of junctions."""
    low = Fraction(*share)
    total = Fraction(0)
    for shape in shapes_of(plan):
        if result_of(shape, dict(crowd)) == row:
            count = low_parts(shape)
            total += low ** count * (1 - low) ** (len(junctions_in(plan)) - count)
    return total.numerator, total.denominator


class ChanceTest(Case):
    def test_the_interface(self):
        self.assert_interface(chance, "frontmeets.inference", ["plan", "share", "crowd", "row"])

    def test_the_example_of_the_document(self):
        self.assertEqual(chance(PLAN, (1, 3), CROWD, ROW), (2, 9))

    def test_the_chances_of_all_rows_of_up_to_four_people(self):
        drawn = random.Random(97)
        for plan in SAMPLES:
            for count in range(5):
                crowd = draw_crowd(drawn, lines_in(plan), count)
                people = [height for _, row in crowd for height in row]
                share = drawn.choice([(1, 2), (1, 3), (3, 7), (999, 1000), (1, 1000)])
                total = Fraction(0)
                for row in itertools.permutations(people):
                    top, bottom = chance(plan, share, crowd, row)
                    self.assertEqual((top, bottom), chance_of(plan, share, crowd, row))
                    total += Fraction(top, bottom)
                self.assertEqual(total, 1)

    def test_nothing_and_certainty(self):
        for share in [(1, 2), (2, 3), (1, 1000)]:
            self.assertEqual(chance("a", share, (), ()), (1, 1))
            self.assertEqual(chance(PLAN, share, (), ()), (1, 1))
            self.assertEqual(chance("a", share, (("a", (3, 1)),), (3, 1)), (1, 1))
            self.assertEqual(chance("a", share, (("a", (3, 1)),), (1, 3)), (0, 1))
            self.assertEqual(chance(DEEP, share, (("c", FORTY),), FORTY), (1, 1))
            self.assertEqual(chance(DEEP, share, (("c", FORTY),), FORTY[::-1]), (0, 1))
            crowd = (("a", (1,)), ("b", (2,)), ("c", (3,)))
            self.assertEqual(chance(PLAN, share, crowd, (2, 1, 3)), (0, 1))
            self.assertEqual(chance(("low", ("a", "b", "c")), share, crowd, (2, 3, 1)), (0, 1))

    def test_one_junction(self):
        crowd = (("a", (1,)), ("b", (2,)))
        for kind in ("low", "high"):
            plan = (kind, ("a", "b"))
            self.assertEqual(chance(plan, (2, 7), crowd, (1, 2)), (2, 7))
            self.assertEqual(chance(plan, (2, 7), crowd, (2, 1)), (5, 7))
            self.assertEqual(chance(plan, (2, 7), (("a", (1, 2)),), (1, 2)), (1, 1))
            self.assertEqual(chance(plan, (2, 7), (("a", (1, 2)),), (2, 1)), (0, 1))

    def test_all_shares_with_small_bottoms(self):
        crowd = (("a", (1,)), ("b", (2,)), ("c", (3,)))
        for bottom in range(2, 60):
            for top in range(1, bottom):
                if math.gcd(top, bottom) == 1:
                    low = chance(PLAN, (top, bottom), crowd, (1, 2, 3))
                    self.assertEqual(low, (top * top, bottom * bottom))
                    mixed = chance(PLAN, (top, bottom), crowd, (1, 3, 2))
                    self.assertEqual(mixed, (top * (bottom - top), bottom * bottom))

    def test_seven_junctions(self):
        crowd = tuple([(line, (height,)) for height, line in enumerate("abcdefgh", 1)])
        row = tuple(range(1, 9))
        self.assertEqual(chance(DEEP, (999, 1000), crowd, row), (999 ** 7, 1000 ** 7))
        self.assertEqual(chance(DEEP, (1, 2), crowd, row[::-1]), (1, 128))
        self.assertEqual(chance(("high", tuple("abcdefgh")), (1, 3), crowd, row[::-1]), (2, 3))

    def test_the_kinds_of_the_plan_do_not_matter(self):
        for shape in shapes_of(PLAN):
            self.assertEqual(chance(shape, (1, 3), CROWD, ROW), (2, 9))

    def test_by_position_and_by_name(self):
        names = ["plan", "share", "crowd", "row"]
        self.assert_calls(chance, names, (PLAN, (1, 3), CROWD, ROW), (2, 9))
        self.assert_calls(chance, names, (PLAN, (1, 3), CROWD, ROW[::-1]), (0, 1))

    def test_values_that_are_no_shares(self):
        wrongs = other_values() + [
            (0, 1), (1, 1), (0, 2), (2, 4), (3, 3), (3, 2), (-1, 2), (1, -2), (-1, -2), (1, 0), (0, 0),
            (1, 1001), (500, 1001), (1000, 1001), (10, 1000), (999, 999), (6, 9), (35, 49), (True, 2),
            (1, True), (True, True), (False, 1), [1, 2], (1,), (1, 2, 3), ((1,), 2), ("1", "2"), (1, "2"),
            (None, 2), (1, None), (1, [2]), {1: 2}, "1/2", 1, 0, (Agreeing(), 2), (1, Agreeing()),
            (10 ** 59, 10 ** 59 + 1), (1, 10 ** 59),
        ]
        for wrong in wrongs:
            for crowd, row in [(CROWD, ROW), ([], None), ((("z", ()),), ()), (CROWD, ())]:
                with self.subTest(wrong=wrong):
                    self.assert_error(InvalidShare, {"share": wrong}, chance, PLAN, wrong, crowd, row)

    def test_invalid_plans_come_first(self):
        for value in no_plans():
            for share in [(1, 2), (2, 4), None]:
                self.assert_error(InvalidPlan, {"value": value}, chance, value, share, CROWD, ROW)
                self.assert_error(InvalidPlan, {"value": value}, chance, value, share, None, None)

    def test_invalid_crowds_and_lines_come_before_rows(self):
        for row in [ROW, None, (0,), ()]:
            for crowd, index in [(list(CROWD), None), (CROWD + (None,), 3), (CROWD[::-1], 1),
                                 ((("z", ()), ("y", ())), 1), ((("a", ()),) * 9, None)]:
                self.assert_error(InvalidCrowd, {"index": index}, chance, PLAN, (1, 2), crowd, row)
            for crowd, line in [((("d", ()),), "d"), (CROWD + (("x", (7,)), ("y", ())), "x")]:
                self.assert_error(UnknownLine, {"line": line}, chance, PLAN, (1, 2), crowd, row)

    def test_invalid_rows_come_before_other_people(self):
        for row, index in [(list(ROW), None), (ROW + (4,), 6), ((True,), 0), (tuple(range(1, 42)), None),
                           (None, None), (ROW[:5] + (0,), 5), (ROW[:4] + (True, 6), 4)]:
            self.assert_error(InvalidRow, {"index": index}, chance, PLAN, (1, 2), CROWD, row)
            self.assert_error(InvalidRow, {"index": index}, chance, PLAN, (1, 2), (), row)

    def test_other_people(self):
        for crowd, row in [(CROWD, ROW[:5]), (CROWD, ROW + (7,)), (CROWD, (4, 3, 2, 5, 1, 7)), (CROWD, ()),
                           ((), (7,)), ((("a", ()),), (1,))]:
            self.assert_error(OtherPeople, {}, chance, PLAN, (1, 2), crowd, row)
            self.assert_error(OtherPeople, {}, chance, DEEP, (1, 2), crowd, row)


if __name__ == "__main__":
    unittest.main()
