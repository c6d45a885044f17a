import itertools
import random
import unittest

from frontmeets.errors import InvalidTable
from frontmeets.plans import flatten, is_plan
from frontmeets.tables import find_four, find_plan, is_table
from tests.checks import Case
from tests.definitions import is_flat, table_in
from tests.samples import PLANS, Agreeing, draw_plans, left_comb, other_values

THREE = (("a", "b", "low"), ("a", "c", "low"), ("b", "c", "high"))
CHAIN = (("a", "b", "low"), ("a", "c", "high"), ("a", "d", "high"),
         ("b", "c", "low"), ("b", "d", "high"), ("c", "d", "low"))
SAMPLES = [plan for plan in list(PLANS) + draw_plans(12, range(2, 9)) if isinstance(plan, tuple)]


def make_table(lines, kinds):
    """Return the table of these ascending lines with these kinds, pair by pair."""
    return tuple([pair + (kind,) for pair, kind in zip(itertools.combinations(lines, 2), kinds)])


def all_tables(lines):
    """Return all tables of these ascending lines."""
    count = len(lines) * (len(lines) - 1) // 2
    return [make_table(lines, kinds) for kinds in itertools.product(("low", "high"), repeat=count)]


def draw_tables(lines, count):
    """Return so many tables of these ascending lines, the same ones each time."""
    chance = random.Random(3)
    return [make_table(lines, chance.choices(("low", "high"), k=28)) for _ in range(count)]


def shows_that_there_is_no_plan(table, four):
    """Tell whether the four lines are as point 3 of the document says."""
    kinds = {frozenset((one, other)): kind for one, other, kind in table}
    w, x, y, z = four
    near = {kinds[frozenset(pair)] for pair in ((w, x), (x, y), (y, z))}
    far = {kinds[frozenset(pair)] for pair in ((w, y), (x, z), (w, z))}
    return len(near) == len(far) == 1 and near != far


class IsTableTest(Case):
    def test_the_interface(self):
        self.assert_interface(is_table, "frontmeets.tables", ["value"])

    def test_the_example_of_the_document(self):
        self.assertEqual(
            [is_table((("a", "b", "low"),)), is_table((("a", "b", "low"), ("a", "c", "low")))], [True, False]
        )

    def test_tables(self):
        for plan in SAMPLES:
            self.assertIs(is_table(table_in(plan)), True)
        for size in range(2, 9):
            for table in draw_tables("abcdefgh"[:size], 5):
                self.assertIs(is_table(table), True)
        self.assertIs(is_table(make_table(("a", "aa", "ab", "b"), ["low"] * 6)), True)
        self.assertIs(is_table((("high", "low", "high"),)), True)
        self.assertIs(is_table((("abcdef", "abcdeg", "low"),)), True)

    def test_by_position_and_by_name(self):
        self.assert_calls(is_table, ["value"], (THREE,), True)
        self.assert_calls(is_table, ["value"], (THREE[:2],), False)
        value = [["a", "b", ["low"]]]
        self.assertIs(is_table(value=value), False)
        self.assertEqual(value, [["a", "b", ["low"]]])


class FindPlanTest(Case):
    def test_the_interface(self):
        self.assert_interface(find_plan, "frontmeets.tables", ["table"])

    def test_the_examples_of_the_document(self):
        self.assertEqual(find_plan(THREE), ("low", ("a", ("high", ("b", "c")))))
        self.assertIsNone(find_plan(CHAIN))

    def test_two_lines(self):
        self.assertEqual(find_plan((("a", "b", "low"),)), ("low", ("a", "b")))
        self.assertEqual(find_plan((("high", "low", "high"),)), ("high", ("high", "low")))

    def test_the_tables_of_plans(self):
        for plan in SAMPLES:
            with self.subTest(plan=plan):
                self.assertEqual(find_plan(table_in(plan)), flatten(plan))

    def test_parts_stand_in_the_order_of_their_least_lines(self):
        for lines in [("a", "aa", "ab", "b"), ("h", "hi", "high", "l")]:
            for kind, other in [("low", "high"), ("high", "low")]:
                table = make_table(lines, [kind, kind, other, other, kind, kind])
                expected = (kind, ((other, (lines[0], lines[3])), (other, (lines[1], lines[2]))))
                self.assertEqual(find_plan(table), expected)

    def test_by_position_and_by_name(self):
        self.assert_calls(find_plan, ["table"], (THREE,), ("low", ("a", ("high", ("b", "c")))))
        self.assert_calls(find_plan, ["table"], (CHAIN,), None)


class FindFourTest(Case):
    def test_the_interface(self):
        self.assert_interface(find_four, "frontmeets.tables", ["table"])

    def test_the_example_of_the_document(self):
        self.assertEqual([find_plan(CHAIN), sorted(find_four(CHAIN))], [None, ["a", "b", "c", "d"]])

    def assert_answers(self, table):
        """Check that just one of the two functions has an answer, and that it is right."""
        plan = find_plan(table)
        four = find_four(table)
        if plan is None:
            self.assert_plain(four)
            self.assertIs(type(four), tuple)
            self.assertEqual(len(set(four)), 4)
            self.assertTrue(shows_that_there_is_no_plan(table, four))
        else:
            self.assertIsNone(four)
            self.assert_plain(plan)
            self.assertTrue(is_plan(plan))
            self.assertTrue(is_flat(plan))
            self.assertEqual(table_in(plan), table)
        self.assertEqual((find_plan(table), find_four(table)), (plan, four))
        return plan is not None

    def test_all_tables_of_two_to_five_lines(self):
        for size, plans in [(2, 2), (3, 8), (4, 52), (5, 472)]:
            answers = [self.assert_answers(table) for table in all_tables("abcde"[:size])]
            self.assertEqual(answers.count(True), plans)
        self.assertEqual(len(all_tables("abcd")), 64)

    def test_tables_of_six_to_eight_lines(self):
        for size in (6, 7, 8):
            answers = [self.assert_answers(table) for table in draw_tables("abcdefgh"[:size], 25)]
            self.assertIn(False, answers)

    def test_tables_of_plans_of_which_one_kind_is_changed(self):
        for plan in [left_comb(["low", "high"] * 3 + ["low"]), PLANS[-1], ("high", tuple("abcdefgh"))]:
            table = table_in(plan)
            self.assertTrue(self.assert_answers(table))
            for index, (one, other, kind) in enumerate(table):
                changed = (one, other, "low" if kind == "high" else "high")
                self.assert_answers(table[:index] + (changed,) + table[index + 1:])

    def test_each_way_in_which_four_lines_can_stand(self):
        for near, far in [("low", "high"), ("high", "low")]:
            for w, x, y, z in itertools.permutations("bdfh"):
                kinds = {frozenset(pair): far for pair in ((w, y), (x, z), (w, z))}
                kinds.update({frozenset(pair): near for pair in ((w, x), (x, y), (y, z))})
                table = tuple([pair + (kinds.get(frozenset(pair), "low"),)
                               for pair in itertools.combinations("abcdefgh", 2)])
                self.assertFalse(self.assert_answers(table))

    def test_by_position_and_by_name(self):
        self.assert_calls(find_four, ["table"], (THREE,), None)
        self.assert_calls(find_four, ["table"], (CHAIN,), find_four(CHAIN))


class WrongTableTest(Case):
    def assert_table(self, table, index):
        self.assertIs(is_table(table), False)
        for function in (find_plan, find_four):
            self.assert_error(InvalidTable, {"index": index}, function, table)

    def test_no_tuple(self):
        for table in other_values() + [list(THREE), [], "a", {("a", "b", "low")}, 7, {("a", "b"): "low"}]:
            if not isinstance(table, tuple):
                with self.subTest(table=table):
                    self.assert_table(table, None)

    def test_no_lines(self):
        self.assert_table((), None)

    def test_an_element_that_is_no_triple(self):
        wrongs = other_values() + [
            ["b", "c", "high"], ("b", "c"), ("b", "c", "high", "low"), (), ("b",), "bc", ("c", "b", "high"),
            ("b", "b", "high"), ("b", "c", "High"), ("b", "c", ""), ("b", "c", None), ("b", "c", True),
            ("b", "c", ("high",)), ("b", "c", ["high"]), ("B", "c", "high"), ("b", "C", "high"),
            ("", "c", "high"), ("b", "", "high"), ("b", "cdefghi", "high"), ("bcdefgh", "c", "high"),
            ("b", "c ", "high"), ("b1", "c", "high"), (1, 2, "high"), (("b",), ("c",), "high"),
            (b"b", b"c", "high"), ("b", None, "high"), (None, "c", "high"), (["b"], "c", "high"),
            ("high", "b", "c"), ("b", "high", "c"), ("b", "c", b"high"), ("b", "c", Agreeing()),
            (Agreeing(), "c", "high"), ("b", Agreeing(), "high"), (("b", "c"), "high"),
        ]
        for wrong in wrongs:
            with self.subTest(wrong=wrong):
                self.assert_table((wrong,), 0)
                self.assert_table(THREE[:2] + (wrong,), 2)
                self.assert_table((wrong,) + THREE[1:], 0)
                self.assert_table(THREE[:1] + (wrong,) + THREE[2:], 1)
                self.assert_table(THREE + (wrong,), 3)

    def test_a_triple_put_otherwise_left_out_or_twice(self):
        table = table_in(PLANS[-1])
        for index, triple in enumerate(table):
            before, behind = table[:index], table[index + 1:]
            self.assert_table(before + behind, None)
            self.assert_table(before + (triple, triple) + behind, index + 1)
            self.assert_table(before + (triple[:2] + ("Low",),) + behind, index)
            self.assert_table(before + ((triple[1], triple[0], triple[2]),) + behind, index)
            if behind:
                self.assert_table(before + behind[:1] + (triple,) + behind[1:], index + 1)

    def test_a_pair_with_both_kinds(self):
        self.assert_table((("a", "b", "low"), ("a", "b", "high")), 1)
        self.assert_table((("a", "b", "high"), ("a", "b", "low")), 1)

    def test_another_order(self):
        self.assert_table(THREE[::-1], 1)
        self.assert_table((THREE[0], THREE[2], THREE[1]), 2)
        self.assert_table((THREE[1], THREE[0], THREE[2]), 1)

    def test_one_triple_more(self):
        self.assert_table(THREE + (("b", "d", "low"),), None)
        self.assert_table((("a", "b", "low"), ("c", "d", "low")), None)
        self.assert_table(THREE + (("d", "e", "low"),), None)
        self.assert_table((("a", "aa", "low"),) + THREE, None)

    def test_pairs_in_number_but_not_those_of_the_lines(self):
        self.assert_table((("a", "b", "low"), ("a", "c", "low"), ("a", "d", "low")), None)
        self.assert_table((("a", "b", "low"), ("a", "c", "low"), ("b", "d", "low")), None)

    def test_nine_lines(self):
        table = make_table("abcdefghi", ["low"] * 36)
        self.assert_table(table, None)
        self.assert_table(table + (None,), 36)
        self.assert_table(table[:35] + (None,), 35)
        self.assertEqual(find_plan(make_table("abcdefgh", ["low"] * 28)), ("low", tuple("abcdefgh")))

    def test_the_first_wrong_element_counts_before_missing_pairs(self):
        self.assert_table((("a", "b", "low"), ("c", "d", "low"), ("c", "d", "low")), 2)
        self.assert_table((("a", "b", "low"), None, ("a", "b", "low")), 1)
        self.assert_table((("c", "d", "low"), ("a", "b", "low"), None), 1)

    def test_by_name(self):
        table = (("a", "b", ["low"]),)
        for function in (find_plan, find_four):
            with self.assertRaises(InvalidTable) as held:
                function(table=table)
            self.assertEqual(held.exception.index, 0)
        self.assertEqual(table, (("a", "b", ["low"]),))


if __name__ == "__main__":
    unittest.main()
