import itertools
import unittest

from frontmeets.equality import apply_step, count_plans, derivation, difference, same_effect
from frontmeets.errors import InvalidPlan, InvalidSize, InvalidStep, NotSame, OtherLines
from frontmeets.plans import flatten, is_plan
from tests.checks import Case
from tests.definitions import is_flat, junctions_in, kinds_in, lines_in, result_of, table_in
from tests.samples import PLANS, Agreeing, draw_plans, left_comb, no_plans, other_values, right_comb

PLAN = ("low", ("a", ("high", ("b", "c"))))
DEEP = ("low", ("h", ("low", (("low", ("e", "b", ("high", ("g", "a")))), "f")), ("high", ("d", "c"))))
WIDE = ("high", tuple("abcdefgh"))
SAMPLES = list(PLANS) + [DEEP] + draw_plans(12)


def swap_kind(kind):
    return "high" if kind == "low" else "low"


def plan_with(plan, path, part):
    """Return the plan in which this part stands at the path."""
    if path == ():
        return part
    parts = list(plan[1])
    parts[path[0]] = plan_with(parts[path[0]], path[1:], part)
    return plan[0], tuple(parts)


def possible_steps(plan):
    """Return a dict of all steps that can be made in the plan, each with the plan that it leads to."""
    found = {}
    for path, (kind, parts) in junctions_in(plan):
        changed = {}
        for index, part in enumerate(parts):
            if isinstance(part, tuple) and part[0] == kind:
                changed["join", path, index] = [*parts[:index], *part[1], *parts[index + 1:]]
        for index in range(len(parts) - 1):
            mixed = list(parts)
            mixed[index], mixed[index + 1] = mixed[index + 1], mixed[index]
            changed["exchange", path, index] = mixed
        for first, last in itertools.combinations(range(len(parts)), 2):
            if last - first + 1 < len(parts):
                group = (kind, parts[first:last + 1])
                changed["group", path, first, last] = [*parts[:first], group, *parts[last + 1:]]
        for step, mixed in changed.items():
            found[step] = plan_with(plan, path, (kind, tuple(mixed)))
    return found


def same_by_running(plan, other):
    """Tell whether the plans agree for one person in each of two lines, with all others empty."""
    for one, two in itertools.combinations(lines_in(plan), 2):
        for heights in ((1, 2), (2, 1)):
            waiting = {one: heights[:1], two: heights[1:]}
            if result_of(plan, waiting) != result_of(other, waiting):
                return False
    return True


def first_difference(plan, other):
    """Return the first pair of lines between which the kinds are different, or None."""
    kinds, others = kinds_in(plan), kinds_in(other)
    pairs = [pair for pair in kinds if pair[0] < pair[1] and kinds[pair] != others[pair]]
    return min(pairs, default=None)


def relatives(plan):
    """Return plans with the same lines, of which some have the same effect and some have not."""
    found = [plan, flatten(plan)] + list(possible_steps(plan).values())
    for path, (kind, parts) in junctions_in(plan):
        found.append(plan_with(plan, path, (swap_kind(kind), parts)))
        found.append(plan_with(plan, path, (kind, parts[::-1])))
    return found


def mirror(plan):
    """Return the plan in which the parts of all junctions stand the other way round."""
    if isinstance(plan, str):
        return plan
    return plan[0], tuple([mirror(part) for part in plan[1][::-1]])


def all_plans(lines, kinds=("low", "high")):
    """Return the set of all flat plans of these ascending lines whose outermost kind is one of these."""
    if len(lines) == 1:
        return {lines[0]}
    found = set()
    for kind in kinds:
        for parts in groupings(lines):
            if len(parts) > 1:
                choices = [all_plans(part, (swap_kind(kind),)) for part in parts]
                found |= {(kind, chosen) for chosen in itertools.product(*choices)}
    return found


def groupings(lines):
    """Return all ways to put the ascending lines into groups, in the order of their least lines."""
    if not lines:
        return [()]
    found = []
    for count in range(len(lines)):
        for chosen in itertools.combinations(lines[1:], count):
            rest = tuple([line for line in lines[1:] if line not in chosen])
            found += [((lines[0],) + chosen,) + others for others in groupings(rest)]
    return found


class SameEffectTest(Case):
    def test_the_interface(self):
        for function in (same_effect, difference, derivation):
            self.assert_interface(function, "frontmeets.equality", ["plan", "other"])

    def test_the_examples_of_the_document(self):
        plan = ("low", ("a", ("low", ("b", "c"))))
        self.assertEqual(
            [same_effect(plan, ("low", ("c", "a", "b"))), same_effect(plan, ("low", ("a", ("high", ("b", "c")))))],
            [True, False],
        )
        self.assertEqual(difference(PLAN, ("high", (("low", ("a", "b")), "c"))), ("a", "c"))

    def test_one_line(self):
        self.assertIs(same_effect("a", "a"), True)
        self.assertIsNone(difference("a", "a"))

    def test_parts_in_another_order_and_junctions_joined_or_made(self):
        for plan in SAMPLES:
            for other in [plan, flatten(plan)] + list(possible_steps(plan).values()):
                self.assertIs(same_effect(plan, other), True)
                self.assertIs(same_effect(other, plan), True)
                self.assertIsNone(difference(plan, other))
                self.assertIsNone(difference(other, plan))

    def test_one_kind_changed(self):
        for plan in SAMPLES:
            for path, (kind, parts) in junctions_in(plan):
                other = plan_with(plan, path, (swap_kind(kind), parts))
                self.assertIs(same_effect(plan, other), False)
                self.assertIs(same_effect(other, plan), False)
                self.assertEqual(difference(plan, other), first_difference(plan, other))
                self.assertEqual(difference(other, plan), first_difference(plan, other))

    def test_against_the_kinds_and_against_single_people(self):
        for plan in list(PLANS) + [DEEP]:
            for other in relatives(plan):
                pair = first_difference(plan, other)
                self.assertEqual(difference(plan, other), pair)
                self.assertIs(same_effect(plan, other), pair is None)
                self.assertIs(same_by_running(plan, other), pair is None)

    def test_all_pairs_of_flat_plans_are_different(self):
        plans = sorted(all_plans(("a", "b", "c", "d")), key=repr)
        self.assertEqual(len(plans), 52)
        for plan, other in itertools.product(plans, repeat=2):
            self.assertIs(same_effect(plan, other), plan == other)
            self.assertEqual(difference(plan, other), first_difference(plan, other))

    def test_the_first_pair_in_ascending_order(self):
        lines = ("b", "aa", "ab", "a")
        self.assertEqual(difference(("low", lines), ("high", lines)), ("a", "aa"))
        plan = ("low", ("d", "c", ("high", ("a", "b"))))
        self.assertEqual(difference(plan, ("low", (("high", ("c", "d")), ("high", ("b", "a"))))), ("c", "d"))
        self.assertEqual(difference(plan, ("low", ("a", "b", "c", "d"))), ("a", "b"))

    def test_by_position_and_by_name(self):
        other = ("low", (("high", ("c", "b")), "a"))
        self.assert_calls(same_effect, ["plan", "other"], (PLAN, other), True)
        self.assert_calls(difference, ["plan", "other"], (PLAN, ("low", ("a", "b", "c"))), ("b", "c"))


class OtherLinesTest(Case):
    def test_other_lines(self):
        pairs = [
            ("a", "b"), ("a", ("low", ("a", "b"))), (PLAN, ("low", ("a", "b"))), (PLAN, ("low", ("a", "b", "d"))),
            (PLAN, ("low", ("a", "b", "c", "d"))), (PLAN, "a"), (WIDE, ("high", tuple("abcdefg"))),
            (("low", ("ab", "c")), ("low", ("a", "bc"))), (WIDE, ("high", tuple("abcdefg") + ("hh",))),
        ]
        for plan, other in pairs:
            for function in (same_effect, difference, derivation):
                with self.subTest(plan=plan, other=other, function=function.__name__):
                    self.assert_error(OtherLines, {}, function, plan, other)
                    self.assert_error(OtherLines, {}, function, other, plan)

    def test_values_that_are_no_plans_come_first(self):
        for value in no_plans():
            with self.subTest(value=value):
                for function in (same_effect, difference, derivation):
                    for other in (PLAN, "a", ("low", ("y", "z"))):
                        self.assert_error(InvalidPlan, {"value": value}, function, value, other)
                        self.assert_error(InvalidPlan, {"value": value}, function, other, value)
                    self.assert_error(InvalidPlan, {"value": value}, function, value, ("low", "ab"))
        wrong = ("low", ("a",))
        for function in (same_effect, difference, derivation):
            self.assert_error(InvalidPlan, {"value": None}, function, None, wrong)
            self.assert_error(InvalidPlan, {"value": wrong}, function, wrong, None)


class ApplyStepTest(Case):
    def test_the_interface(self):
        self.assert_interface(apply_step, "frontmeets.equality", ["plan", "step"])

    def test_the_examples_of_the_document(self):
        self.assertEqual(
            apply_step(("low", ("a", ("low", ("b", "c")))), ("join", (), 1)), ("low", ("a", "b", "c"))
        )
        plan = ("low", ("a", "b", "c"))
        self.assertEqual(
            [apply_step(plan, ("group", (), 1, 2)), apply_step(plan, ("exchange", (), 0))],
            [("low", ("a", ("low", ("b", "c")))), ("low", ("b", "a", "c"))],
        )
        step = ("group", (), 0, 2)
        self.assert_error(InvalidStep, {"step": step}, apply_step, plan, step)

    def test_steps_in_a_deep_plan(self):
        inner = ("low", ("e", "b", ("high", ("g", "a"))))
        results = {
            ("join", (), 1): ("low", ("h", inner, "f", ("high", ("d", "c")))),
            ("join", (1,), 0): ("low", ("h", ("low", inner[1] + ("f",)), ("high", ("d", "c")))),
            ("group", (), 0, 1): ("low", (("low", ("h", ("low", (inner, "f")))), ("high", ("d", "c")))),
            ("group", (), 1, 2): ("low", ("h", ("low", (("low", (inner, "f")), ("high", ("d", "c")))))),
            ("exchange", (), 1): ("low", ("h", ("high", ("d", "c")), ("low", (inner, "f")))),
            ("exchange", (2,), 0): ("low", ("h", ("low", (inner, "f")), ("high", ("c", "d")))),
            ("exchange", (1, 0, 2), 0): ("low", ("h", ("low", (("low", ("e", "b", ("high", ("a", "g")))), "f")),
                                                 ("high", ("d", "c")))),
            ("group", (1, 0), 0, 1): ("low", ("h", ("low", (
                ("low", (("low", ("e", "b")), ("high", ("g", "a")))), "f")), ("high", ("d", "c")))),
        }
        for step, result in results.items():
            with self.subTest(step=step):
                self.assertEqual(apply_step(DEEP, step), result)

    def test_each_step_at_each_junction(self):
        for plan in SAMPLES + [WIDE]:
            for step, result in possible_steps(plan).items():
                found = apply_step(plan, step)
                self.assertEqual(found, result)
                self.assertTrue(is_plan(found))
                self.assertEqual(table_in(found), table_in(plan))
        self.assertEqual(len(possible_steps(WIDE)), 7 + 27)

    def test_all_other_steps_with_small_numbers(self):
        numbers = [-2, -1, 0, 1, 2, 3, 7, 8, 9, True, False, None]
        for plan in [PLAN, DEEP, WIDE, PLANS[-1], "a", ("low", ("a", "b"))]:
            possible = {repr(step) for step in possible_steps(plan)}
            paths = [()] + [(index,) for index in numbers]
            paths += [path + (index,) for path, _ in junctions_in(plan) for index in (-1, 0, 1, 2, 3)]
            steps = [(word, path, index) for word in ("join", "exchange", "group")
                     for path in paths for index in numbers]
            steps += [(word, path, first, last) for word in ("join", "exchange", "group")
                      for path in paths for first in numbers for last in numbers]
            for step in steps:
                if repr(step) not in possible:
                    self.assert_error(InvalidStep, {"step": step}, apply_step, plan, step)

    def test_values_that_are_no_steps(self):
        plan = ("low", (("low", ("a", "b")), ("low", ("c", "d")), "e"))
        steps = [
            (), ("join",), ("join", ()), ("join", (), 0, 1), ("join", (), 0, ()), ["join", (), 0], "join",
            ("Join", (), 0), ("joins", (), 0), ("", (), 0), ("swap", (), 0), (b"join", (), 0), (None, (), 0),
            (("join",), (), 0), (["join"], (), 0), (Agreeing(), (), 0), ("join", [], 0), ("join", None, 0),
            ("join", 0, 0), ("join", "", 0), ("join", {}, 0), ("join", 0), ((), "join", 0), ("join", (), "0"),
            ("join", (), (0,)), ("join", (), [0]), ("join", (), None), ("join", (), 10 ** 59),
            ("join", (), True), ("join", (), False), ("join", (False,), 0), ("join", (), -3), ("join", (), 2),
            ("join", (), 3), ("join", (0,), 0), ("join", (2,), 0), ("join", (0, 0), 0), ("join", ("a",), 0),
            ("join", ((),), 0), ("join", ([0],), 0),
            ("exchange", (), 2), ("exchange", (), -1), ("exchange", (), 3), ("exchange", (), 0, 1),
            ("exchange", (), True), ("exchange", (), False), ("exchange", (2,), 0), ("exchange", (0,), 1),
            ("exchange", (True,), 0), ("exchange", (-3,), 0), ("exchange", (3,), 0), ("exchange", (0, 0), 0),
            ("exchange", (0, 0, 0), 0), ("exchange", [0], 0), ("Exchange", (), 0), ("exchange", ()),
            ("group", (), 0), ("group", (), 0, 2), ("group", (), 1, 1), ("group", (), 2, 1), ("group", (), 1, 0),
            ("group", (), 2, 3), ("group", (), -1, 0), ("group", (), -1, 1), ("group", (), 0, -1),
            ("group", (), False, 1), ("group", (), 0, True), ("group", (), False, True), ("group", (0,), 0, 1),
            ("group", (), 0, 1, 2), ("group", (), (0, 1)), ("group", (), "0", "1"), ("group", (2,), 0, 1),
            ("group", (), None, 1), ("group", (), 0, None), ("group", (), 0, 10 ** 59),
        ]
        for step in steps + other_values():
            with self.subTest(step=step):
                self.assert_error(InvalidStep, {"step": step}, apply_step, plan, step)
                self.assert_error(InvalidStep, {"step": step}, apply_step, "a", step)

    def test_joins_of_lines_and_of_junctions_of_the_other_kind(self):
        for step in [("join", (), 0), ("join", (), 1), ("join", (1,), 0)]:
            self.assert_error(InvalidStep, {"step": step}, apply_step, PLAN, step)
        plan = ("high", ("low", "high"))
        for index in (0, 1):
            step = ("join", (), index)
            self.assert_error(InvalidStep, {"step": step}, apply_step, plan, step)

    def test_invalid_plans_come_first(self):
        for value in no_plans():
            for step in [("exchange", (), 0), None, ("join", (), 5)]:
                with self.subTest(value=value, step=step):
                    self.assert_error(InvalidPlan, {"value": value}, apply_step, value, step)

    def test_by_position_and_by_name(self):
        step = ("exchange", (1,), 0)
        self.assert_calls(apply_step, ["plan", "step"], (PLAN, step), ("low", ("a", ("high", ("c", "b")))))
        wrong = ["exchange", (), [0]]
        with self.assertRaises(InvalidStep) as held:
            apply_step(step=wrong, plan=PLAN)
        self.assertIs(held.exception.step, wrong)
        self.assertEqual(wrong, ["exchange", (), [0]])


class DerivationTest(Case):
    def assert_leads(self, plan, other):
        steps = derivation(plan, other)
        self.assert_plain(steps)
        self.assertIs(type(steps), tuple)
        self.assertLessEqual(len(steps), 100)
        reached = plan
        for step in steps:
            self.assertIn(step, possible_steps(reached))
            reached = apply_step(reached, step)
        self.assertEqual(reached, other)
        self.assertEqual(derivation(plan, other), steps)

    def test_the_examples_of_the_document(self):
        plan = ("high", ("b", "c"))
        self.assertEqual(apply_step(plan, derivation(plan, ("high", ("c", "b")))[-1]), ("high", ("c", "b")))
        plan = ("high", ("a", "b"))
        self.assert_error(NotSame, {"one": "a", "other": "b"}, derivation, plan, ("low", ("a", "b")))

    def test_from_a_plan_to_itself(self):
        for plan in SAMPLES + [WIDE]:
            self.assert_leads(plan, plan)
        self.assertEqual(derivation("a", "a"), ())

    def test_to_the_flat_plan_and_back(self):
        for plan in SAMPLES:
            self.assert_leads(plan, flatten(plan))
            self.assert_leads(flatten(plan), plan)

    def test_to_the_plans_after_each_step(self):
        for plan in list(PLANS) + [DEEP]:
            for other in possible_steps(plan).values():
                self.assert_leads(plan, other)
                self.assert_leads(other, plan)

    def test_eight_lines_of_one_kind_from_opposite_ends(self):
        for kind in ("low", "high"):
            plans = [left_comb([kind] * 7), right_comb([kind] * 7), (kind, tuple("hgfedcba"))]
            plans += [mirror(plan) for plan in plans]
            for one, other in itertools.product(plans, repeat=2):
                self.assert_leads(one, other)

    def test_deep_plans_of_both_kinds(self):
        for plan in [left_comb(["low", "high"] * 3 + ["low"]), PLANS[-1], DEEP] + draw_plans(40, [8]):
            self.assert_leads(plan, mirror(plan))
            self.assert_leads(mirror(plan), plan)

    def test_plans_without_the_same_effect(self):
        for plan in list(PLANS) + [DEEP]:
            for other in relatives(plan):
                pair = first_difference(plan, other)
                if pair is not None:
                    expected = {"one": pair[0], "other": pair[1]}
                    with self.assertRaises(NotSame) as held:
                        derivation(plan, other)
                    self.assertEqual(vars(held.exception), expected)

    def test_other_lines_come_before_other_effects(self):
        self.assert_error(OtherLines, {}, derivation, ("low", ("a", "b")), ("high", ("a", "c")))
        self.assert_error(OtherLines, {}, derivation, ("low", ("a", "b", "c")), ("high", ("a", "b")))

    def test_by_position_and_by_name(self):
        plan = ("high", ("b", "c"))
        steps = (("exchange", (), 0),)
        self.assert_calls(derivation, ["plan", "other"], (plan, ("high", ("c", "b"))), steps)


class CountPlansTest(Case):
    def test_the_interface(self):
        self.assert_interface(count_plans, "frontmeets.equality", ["size"])

    def test_the_example_of_the_document(self):
        self.assertEqual([count_plans(size) for size in (1, 2, 3, 4)], [1, 2, 8, 52])

    def test_all_sizes(self):
        self.assertEqual([count_plans(size) for size in range(1, 9)],
                         [1, 2, 8, 52, 472, 5504, 78416, 1320064])

    def test_against_the_flat_plans(self):
        for size in range(1, 7):
            plans = all_plans(tuple("abcdefgh"[:size]))
            self.assertTrue(all([is_flat(plan) for plan in list(plans)[:500]]))
            self.assertEqual(count_plans(size), len(plans))

    def test_other_sizes(self):
        for size in other_values() + [0, 9, 10, -8, True, "4", (4,), [4], "a"]:
            with self.subTest(size=size):
                self.assert_error(InvalidSize, {"size": size}, count_plans, size)

    def test_by_position_and_by_name(self):
        self.assert_calls(count_plans, ["size"], (5,), 472)
        with self.assertRaises(InvalidSize) as held:
            count_plans(size=9)
        self.assertEqual(held.exception.size, 9)


if __name__ == "__main__":
    unittest.main()
