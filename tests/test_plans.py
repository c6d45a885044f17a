import copy
import itertools
import unittest

from frontmeets.errors import InvalidNames, InvalidPlan, LastLine, UnknownLine
from frontmeets.plans import (
    flatten, is_plan, kind_between, kind_table, lines_of, restrict, without_line,
)
from tests.checks import Case
from tests.definitions import is_flat, kinds_in, lines_in, table_in
from tests.samples import PLANS, Agreeing, draw_plans, left_comb, no_plans, other_values

PLAN = ("low", ("a", ("high", ("b", "c"))))
DEEP = ("low", ("h", ("high", (("low", ("e", "b", ("low", ("g", "a")))), "f")), ("low", ("d", "c"))))
SAMPLES = list(PLANS) + draw_plans(12)


def mixtures(plan):
    """Return some plans that arise if the parts of each junction change places."""
    if isinstance(plan, str):
        return [plan]
    kind, parts = plan
    turned = tuple([mixtures(part)[-1] for part in parts])
    return [(kind, parts), (kind, parts[::-1]), (kind, turned[1:] + turned[:1])]


class IsPlanTest(Case):
    def test_the_interface(self):
        self.assert_interface(is_plan, "frontmeets.plans", ["value"])

    def test_the_example_of_the_document(self):
        values = ["a", ("low", ("a", "b")), ("low", ("a",)), ("low", ("a", "a"))]
        self.assertEqual([is_plan(value) for value in values], [True, True, False, False])

    def test_plans(self):
        for plan in SAMPLES:
            with self.subTest(plan=plan):
                self.assertIs(is_plan(plan), True)

    def test_lines(self):
        for line in ["a", "z", "m", "ab", "zz", "abcdef", "zzzzzz", "low", "high", "aaaaaa"]:
            self.assertIs(is_plan(line), True)
            self.assertIs(is_plan(("low", (line, "q"))), True)

    def test_each_letter(self):
        for letter in map(chr, range(32, 127)):
            self.assertIs(is_plan(letter), letter in "abcdefghijklmnopqrstuvwxyz")
            self.assertIs(is_plan("a" + letter), letter in "abcdefghijklmnopqrstuvwxyz")
            self.assertIs(is_plan(letter + "a"), letter in "abcdefghijklmnopqrstuvwxyz")

    def test_no_lines(self):
        for value in ["", "abcdefg", "a" * 7, "a" * 2000, "A", "aA", "a1", "1", "a b", "a\n", "\na", "a_",
                      "a,b", "a(", "low(a, b)", "abcdef\n"]:
            with self.subTest(value=value):
                self.assertIs(is_plan(value), False)
                self.assertIs(is_plan(("low", ("q", value))), False)
                self.assertIs(is_plan(("low", ("q", ("high", (value, "r"))))), False)

    def test_the_number_of_lines(self):
        lines = tuple("abcdefghi")
        for count in range(2, 9):
            self.assertIs(is_plan(("high", lines[:count])), True)
        self.assertIs(is_plan(("high", lines)), False)
        self.assertIs(is_plan(("high", lines[:8] + (("low", lines[7:]),))), False)
        self.assertIs(is_plan(("high", (("low", lines[:4]), ("low", lines[4:])))), False)
        self.assertIs(is_plan(("high", (left_comb(["low", "high"] * 3 + ["low"]), "i"))), False)
        self.assertIs(is_plan(("high", ("i", left_comb(["low", "high"] * 3 + ["low"])))), False)
        self.assertIs(is_plan(("low", lines * 100)), False)

    def test_few_parts(self):
        for parts in [(), ("a",), (("high", ("a", "b")),)]:
            with self.subTest(parts=parts):
                self.assertIs(is_plan(("low", parts)), False)
                self.assertIs(is_plan(("high", ("q", ("low", parts)))), False)

    def test_a_line_twice_at_any_depth(self):
        for line in "abcdefg":
            for plan in [left_comb(["low", "high"] * 3), left_comb(["low"] * 6)]:
                self.assertIs(is_plan(("low", (plan, "h"))), True)
                self.assertIs(is_plan(("low", (plan, line))), False)
                self.assertIs(is_plan(("low", (line, plan))), False)
                self.assertIs(is_plan(("low", ("h", ("high", (line, "i"))))), True)
                self.assertIs(is_plan(("low", (plan, ("high", (line, "i"))))), False)

    def test_values_that_are_no_plans(self):
        for value in no_plans():
            with self.subTest(value=value):
                self.assertIs(is_plan(value), False)
                self.assertIs(is_plan(("low", (value, "q"))), False)
                self.assertIs(is_plan(("low", ("q", value))), False)
                self.assertIs(is_plan(("low", ("q", ("high", ("r", value))))), False)

    def test_other_kinds(self):
        for kind in other_values() + ["LOW", "lowlow", ("low",), 0, 1, "a"]:
            with self.subTest(kind=kind):
                self.assertIs(is_plan((kind, ("a", "b"))), False)
                self.assertIs(is_plan(("low", ("q", (kind, ("a", "b"))))), False)

    def test_other_parts(self):
        for parts in other_values() + [["a", "b"], {"a": "b"}, "ab", "low", b"ab", 2]:
            if isinstance(parts, tuple) and parts == ("low", "high"):
                continue
            with self.subTest(parts=parts):
                self.assertIs(is_plan(("low", parts)), False)
                self.assertIs(is_plan(("low", ("q", ("high", parts)))), False)

    def test_a_value_that_repeats_itself_ends_soon(self):
        value = "a"
        for _ in range(9):
            value = ("low", (value,) * 50)
        self.assertIs(is_plan(value), False)

    def test_by_position_and_by_name(self):
        self.assert_calls(is_plan, ["value"], (PLAN,), True)
        value = ("low", ["a", ["b"]])
        self.assertIs(is_plan(value=value), False)
        self.assertEqual(value, ("low", ["a", ["b"]]))


class LinesTest(Case):
    def test_the_interface(self):
        self.assert_interface(lines_of, "frontmeets.plans", ["plan"])

    def test_the_examples_of_the_document(self):
        self.assertEqual(lines_of(("low", ("c", ("high", ("b", "a"))))), ("a", "b", "c"))
        value = ("low", ("a",))
        self.assert_error(InvalidPlan, {"value": value}, lines_of, value)

    def test_the_lines_ascend(self):
        for plan in SAMPLES:
            with self.subTest(plan=plan):
                self.assertEqual(lines_of(plan), tuple(sorted(lines_in(plan))))
        self.assertEqual(lines_of(("low", ("b", "aab", "ab", "aa", "ba"))), ("aa", "aab", "ab", "b", "ba"))

    def test_by_position_and_by_name(self):
        self.assert_calls(lines_of, ["plan"], (PLAN,), ("a", "b", "c"))
        self.assert_calls(lines_of, ["plan"], ("low",), ("low",))


class FlattenTest(Case):
    def test_the_interface(self):
        self.assert_interface(flatten, "frontmeets.plans", ["plan"])

    def test_the_example_of_the_document(self):
        self.assertEqual(
            flatten(("high", (("low", ("d", "b")), "c", ("high", ("e", "a"))))),
            ("high", ("a", ("low", ("b", "d")), "c", "e")),
        )

    def test_the_result_is_flat_and_has_the_same_kinds(self):
        for plan in SAMPLES:
            with self.subTest(plan=plan):
                flat = flatten(plan)
                self.assertTrue(is_plan(flat))
                self.assertTrue(is_flat(flat))
                self.assertEqual(kinds_in(flat), kinds_in(plan))
                self.assertEqual(sorted(lines_in(flat)), sorted(lines_in(plan)))

    def test_a_flat_plan_stays_as_it_is(self):
        flat_plans = [plan for plan in SAMPLES if is_flat(plan)]
        self.assertGreater(len(flat_plans), 10)
        for plan in flat_plans + [flatten(plan) for plan in SAMPLES]:
            with self.subTest(plan=plan):
                self.assertEqual(flatten(plan), plan)

    def test_the_order_of_the_parts_does_not_matter(self):
        for plan in SAMPLES:
            for mixed in mixtures(plan):
                self.assertEqual(flatten(mixed), flatten(plan))

    def test_parts_stand_in_the_order_of_their_least_lines(self):
        self.assertEqual(flatten(("low", ("b", ("high", ("c", "a"))))), ("low", (("high", ("a", "c")), "b")))
        self.assertEqual(flatten(("low", ("z", "b", "aa", "ab"))), ("low", ("aa", "ab", "b", "z")))

    def test_junctions_of_one_kind_inside_each_other(self):
        for kind in ("low", "high"):
            other = "high" if kind == "low" else "low"
            plan = left_comb([kind] * 7)
            self.assertEqual(flatten(plan), (kind, tuple("abcdefgh")))
            self.assertEqual(flatten((kind, ("d", (kind, (("low", ("c", "b")), "a"))))),
                             flatten((kind, ("a", ("low", ("b", "c")), "d"))))
            inner = (other, ((other, ("g", (other, ("f", "c")))), "b"))
            self.assertEqual(flatten((kind, (inner, (kind, ("e", "a"))))),
                             (kind, ("a", (other, ("b", "c", "f", "g")), "e")))

    def test_by_position_and_by_name(self):
        self.assert_calls(flatten, ["plan"], (("low", ("b", "a")),), ("low", ("a", "b")))
        self.assert_calls(flatten, ["plan"], ("abc",), "abc")


class KindBetweenTest(Case):
    def test_the_interface(self):
        self.assert_interface(kind_between, "frontmeets.plans", ["plan", "one", "other"])

    def test_the_example_of_the_document(self):
        self.assertEqual(
            [kind_between(PLAN, "c", "a"), kind_between(PLAN, "c", "b")], ["low", "high"]
        )

    def test_each_two_lines_in_both_orders(self):
        for plan in SAMPLES:
            for (one, other), kind in kinds_in(plan).items():
                self.assertEqual(kind_between(plan, one, other), kind)

    def test_an_unknown_first_line(self):
        for line in other_values() + ["d", "aa", "A", "", ("a",), ["a"], PLAN, Agreeing()]:
            with self.subTest(line=line):
                for other in ("a", "d", line, 5, None, ["a"]):
                    self.assert_error(UnknownLine, {"line": line}, kind_between, PLAN, line, other)

    def test_an_unknown_second_line(self):
        for line in other_values() + ["d", "aa", "A", "", ("b",), ["b"], PLAN, Agreeing()]:
            with self.subTest(line=line):
                self.assert_error(UnknownLine, {"line": line}, kind_between, PLAN, "a", line)

    def test_the_same_line_twice(self):
        for plan in SAMPLES:
            for line in lines_in(plan):
                self.assert_error(UnknownLine, {"line": line}, kind_between, plan, line, line)

    def test_a_plan_of_one_line(self):
        self.assert_error(UnknownLine, {"line": "b"}, kind_between, "a", "a", "b")
        self.assert_error(UnknownLine, {"line": "b"}, kind_between, "a", "b", "a")
        self.assert_error(UnknownLine, {"line": "a"}, kind_between, "a", "a", "a")

    def test_the_kinds_are_no_lines(self):
        self.assert_error(UnknownLine, {"line": "low"}, kind_between, PLAN, "low", "high")
        self.assertEqual(kind_between(("low", ("high", "low")), "low", "high"), "low")

    def test_by_position_and_by_name(self):
        self.assert_calls(kind_between, ["plan", "one", "other"], (PLAN, "c", "b"), "high")


class KindTableTest(Case):
    def test_the_interface(self):
        self.assert_interface(kind_table, "frontmeets.plans", ["plan"])

    def test_the_example_of_the_document(self):
        self.assertEqual(kind_table(PLAN), (("a", "b", "low"), ("a", "c", "low"), ("b", "c", "high")))

    def test_one_line(self):
        for line in ("a", "low", "abcdef"):
            self.assertEqual(kind_table(line), ())

    def test_the_tables_of_plans(self):
        for plan in SAMPLES:
            self.assertEqual(kind_table(plan), table_in(plan))

    def test_eight_lines_have_28_triples(self):
        self.assertEqual(len(kind_table(DEEP)), 28)

    def test_by_position_and_by_name(self):
        plan = ("high", ("low", "ab"))
        self.assert_calls(kind_table, ["plan"], (plan,), (("ab", "low", "high"),))


class WithoutLineTest(Case):
    def test_the_interface(self):
        self.assert_interface(without_line, "frontmeets.plans", ["plan", "line"])

    def test_the_examples_of_the_document(self):
        self.assertEqual([without_line(PLAN, "a"), without_line(PLAN, "c")],
                         [("high", ("b", "c")), ("low", ("a", "b"))])
        self.assert_error(LastLine, {}, without_line, "a", "a")

    def test_at_any_depth(self):
        results = {
            "a": ("low", ("h", ("high", (("low", ("e", "b", "g")), "f")), ("low", ("d", "c")))),
            "b": ("low", ("h", ("high", (("low", ("e", ("low", ("g", "a")))), "f")), ("low", ("d", "c")))),
            "c": ("low", ("h", ("high", (("low", ("e", "b", ("low", ("g", "a")))), "f")), "d")),
            "d": ("low", ("h", ("high", (("low", ("e", "b", ("low", ("g", "a")))), "f")), "c")),
            "e": ("low", ("h", ("high", (("low", ("b", ("low", ("g", "a")))), "f")), ("low", ("d", "c")))),
            "f": ("low", ("h", ("low", ("e", "b", ("low", ("g", "a")))), ("low", ("d", "c")))),
            "g": ("low", ("h", ("high", (("low", ("e", "b", "a")), "f")), ("low", ("d", "c")))),
            "h": ("low", (("high", (("low", ("e", "b", ("low", ("g", "a")))), "f")), ("low", ("d", "c")))),
        }
        for line, result in results.items():
            with self.subTest(line=line):
                self.assertEqual(without_line(DEEP, line), result)

    def test_a_junction_with_two_parts(self):
        for kind in ("low", "high"):
            self.assertEqual(without_line((kind, ("a", "b")), "a"), "b")
            self.assertEqual(without_line((kind, ("a", "b")), "b"), "a")
            inner = (kind, ("b", ("high", ("c", "d"))))
            self.assertEqual(without_line((kind, ("a", inner)), "a"), inner)
            self.assertEqual(without_line((kind, ("a", inner)), "b"), (kind, ("a", ("high", ("c", "d")))))

    def test_the_other_lines_keep_their_kinds(self):
        for plan in SAMPLES:
            kinds = kinds_in(plan)
            if isinstance(plan, str):
                continue
            for line in lines_in(plan):
                left = without_line(plan, line)
                self.assertTrue(is_plan(left))
                self.assertEqual(lines_in(left), [other for other in lines_in(plan) if other != line])
                expected = {pair: kind for pair, kind in kinds.items() if line not in pair}
                self.assertEqual(kinds_in(left), expected)

    def test_the_only_line(self):
        for line in ("a", "low", "abcdef"):
            self.assert_error(LastLine, {}, without_line, line, line)

    def test_an_unknown_line(self):
        for line in other_values() + ["d", "aa", "A", "", ("a",), ["a"], PLAN, ("high", ("b", "c"))]:
            with self.subTest(line=line):
                self.assert_error(UnknownLine, {"line": line}, without_line, PLAN, line)
                self.assert_error(UnknownLine, {"line": line}, without_line, "a", line)

    def test_by_position_and_by_name(self):
        self.assert_calls(without_line, ["plan", "line"], (PLAN, "c"), ("low", ("a", "b")))


class RestrictTest(Case):
    def test_the_interface(self):
        self.assert_interface(restrict, "frontmeets.plans", ["plan", "names"])

    def test_the_example_of_the_document(self):
        self.assertEqual([restrict(PLAN, ("a", "c")), restrict(PLAN, ("b",))], [("low", ("a", "c")), "b"])

    def test_all_lines(self):
        for plan in SAMPLES:
            self.assertEqual(restrict(plan, tuple(sorted(lines_in(plan)))), flatten(plan))

    def test_one_line(self):
        for plan in SAMPLES:
            for line in lines_in(plan):
                self.assertEqual(restrict(plan, (line,)), line)

    def test_all_choices_of_lines(self):
        for plan in list(PLANS) + [DEEP]:
            kinds = kinds_in(plan)
            lines = sorted(lines_in(plan))
            for count in range(1, len(lines) + 1):
                for names in itertools.combinations(lines, count):
                    found = restrict(plan, names)
                    self.assertTrue(is_flat(found))
                    self.assertEqual(sorted(lines_in(found)), list(names))
                    expected = {pair: kinds[pair] for pair in itertools.permutations(names, 2)}
                    self.assertEqual(kinds_in(found), expected)

    def test_junctions_of_one_kind_that_come_together(self):
        plan = ("low", ("d", ("high", ("b", ("low", ("c", "a"))))))
        self.assertEqual(restrict(plan, ("a", "c", "d")), ("low", ("a", "c", "d")))

    def assert_names(self, names, index, plan=PLAN):
        self.assert_error(InvalidNames, {"index": index}, restrict, plan, names)

    def test_no_tuple_or_no_names(self):
        self.assert_names((), None)
        for names in other_values() + [["a"], ["a", "c"], "a", "abc", {"a": "b"}, {"a"}, 1]:
            if not isinstance(names, tuple):
                with self.subTest(names=names):
                    self.assert_names(names, None)

    def test_wrong_order_or_a_line_twice(self):
        self.assert_names(("b", "a"), 1)
        self.assert_names(("a", "a"), 1)
        self.assert_names(("a", "c", "b"), 2)
        self.assert_names(("a", "b", "c", "a"), 3)
        self.assert_names(("a", "b", "b", "c"), 2)
        self.assert_names(("c", "b", "a"), 1)
        self.assert_names(tuple("abcabcabcabc"), 3)

    def test_an_unknown_line(self):
        for name in other_values() + ["d", "aa", "A", "", ("a",), ["a"], PLAN, Agreeing()]:
            with self.subTest(name=name):
                self.assert_names((name,), 0)
                self.assert_names(("a", name), 1)
                self.assert_names(("a", "b", name, "c"), 2)

    def test_the_first_wrong_name_counts(self):
        self.assert_names(("b", "a", "d"), 1)
        self.assert_names(("a", "d", "b", "b"), 1)
        self.assert_names((None, "a", "a"), 0)

    def test_by_position_and_by_name(self):
        self.assert_calls(restrict, ["plan", "names"], (PLAN, ("b", "c")), ("high", ("b", "c")))

    def test_wrong_names_stay_as_they_were(self):
        names = ("a", ["b"], {"c": ["d"]})
        self.assert_names(names, 1)
        self.assertEqual(names, ("a", ["b"], {"c": ["d"]}))


class WrongPlanTest(Case):
    def test_each_function_with_values_that_are_no_plans(self):
        for value in no_plans():
            with self.subTest(value=value):
                for function in (lines_of, flatten, kind_table):
                    self.assert_error(InvalidPlan, {"value": value}, function, value)

    def test_the_plan_comes_before_all_later_parameters(self):
        calls = [
            (kind_between, ("a", "b")), (kind_between, ("a", "a")), (kind_between, (None, 5)),
            (without_line, ("a",)), (without_line, ("zz",)), (without_line, (["a"],)),
            (restrict, (("a",),)), (restrict, ((),)), (restrict, (["b"],)), (restrict, (("b", "a"),)),
        ]
        for value in no_plans():
            for function, rest in calls:
                with self.subTest(value=value, function=function.__name__, rest=rest):
                    self.assert_error(InvalidPlan, {"value": value}, function, value, *rest)

    def test_by_name(self):
        value = ("low", ["a", "b"])
        before = copy.deepcopy(value)
        calls = [
            (lines_of, {}), (flatten, {}), (kind_table, {}), (kind_between, {"other": 1, "one": 2}),
            (without_line, {"line": "a"}), (restrict, {"names": ()}),
        ]
        for function, rest in calls:
            with self.assertRaises(InvalidPlan) as held:
                function(**rest, plan=value)
            self.assertIs(held.exception.value, value)
        self.assertEqual(value, before)


if __name__ == "__main__":
    unittest.main()
