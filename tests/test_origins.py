import itertools
import random
import unittest

from frontmeets.errors import (
    InvalidKnown, InvalidPlan, InvalidRow, InvalidSources, TooManyPeople,
)
from frontmeets.origins import count_sources, find_fault, first_sources, is_possible
from frontmeets.rows import split_trains
from frontmeets.running import run_plan, source_lines
from tests.checks import Case
from tests.definitions import breakers_at, junctions_in, lines_in, may_come
from tests.samples import (
    PLANS, Agreeing, draw_crowd, draw_plans, left_comb, no_plans, other_values, right_comb,
)

PLAN = ("low", ("a", ("high", ("b", "c"))))
TWO = ("low", ("a", "b"))
ROW = (4, 3, 2, 5, 1, 6)
SOURCES = ("c", "c", "b", "a", "a", "b")
FORTY = tuple([17 * place % 41 for place in range(1, 41)])
SAMPLES = list(PLANS) + draw_plans(8)
ASKED = (is_possible, find_fault)
COUNTED = (count_sources, first_sources)


def fault_of(plan, row, sources):
    """Return the pair that find_fault is to return, from the condition of point 3."""
    people = list(zip(row, sources))
    junctions = sorted(junctions_in(plan), key=lambda pair: len(pair[0]))
    for height in row:
        for path, junction in junctions:
            if height in breakers_at(junction, people):
                return path, height
    return None


def all_sources(plan, row, known=()):
    """Return the ascending list of the tuples of lines from which the people may have come."""
    lines = sorted(lines_in(plan))
    return [
        sources for sources in itertools.product(lines, repeat=len(row))
        if may_come(plan, row, sources)
        and all([sources[row.index(height)] == line for height, line in known])
    ]


class IsPossibleTest(Case):
    def assert_sources(self, plan, row, sources):
        possible = may_come(plan, row, sources)
        self.assertIs(is_possible(plan, row, sources), possible)
        fault = find_fault(plan, row, sources)
        self.assertEqual(fault, fault_of(plan, row, sources))
        self.assertIs(fault is None, possible)
        return possible

    def test_the_interface(self):
        for function in ASKED:
            self.assert_interface(function, "frontmeets.origins", ["plan", "row", "sources"])

    def test_the_examples_of_the_document(self):
        found = [is_possible(TWO, (2, 1, 3), sources) for sources in (("b", "b", "a"), ("a", "b", "a"))]
        self.assertEqual(found, [True, False])
        self.assert_error(InvalidSources, {"index": None}, is_possible, TWO, (2, 1, 3), ("a", "d"))
        self.assertEqual(find_fault(PLAN, ROW, ("c", "c", "b", "a", "c", "b")), ((), 1))

    def test_nobody_and_one_person(self):
        for plan in SAMPLES:
            self.assertIs(is_possible(plan, (), ()), True)
            self.assertIsNone(find_fault(plan, (), ()))
            for line in lines_in(plan):
                self.assertIs(is_possible(plan, (7,), (line,)), True)
                self.assertIsNone(find_fault(plan, (7,), (line,)))

    def test_one_line(self):
        for row in [(1, 2, 3), (3, 2, 1), FORTY]:
            self.assertIs(is_possible("a", row, ("a",) * len(row)), True)
            self.assertIsNone(find_fault("a", row, ("a",) * len(row)))

    def test_results_of_the_plan_and_results_with_one_line_exchanged(self):
        chance = random.Random(23)
        faults = 0
        for plan in SAMPLES:
            for _ in range(6):
                crowd = draw_crowd(chance, lines_in(plan), 40)
                row = run_plan(plan, crowd)
                sources = source_lines(plan, crowd)
                self.assertIs(is_possible(plan, row, sources), True)
                self.assertIsNone(find_fault(plan, row, sources))
                for place in range(0, len(row), 5):
                    other = chance.choice(lines_in(plan))
                    changed = sources[:place] + (other,) + sources[place + 1:]
                    faults += not self.assert_sources(plan, row, changed)
        self.assertGreater(faults, 300)

    def test_any_rows(self):
        chance = random.Random(29)
        found = 0
        for plan in SAMPLES:
            for count in (2, 3, 4, 5, 7, 12, 40):
                for _ in range(3):
                    row = tuple(chance.sample(range(1, 1000), count))
                    sources = tuple(chance.choices(lines_in(plan), k=count))
                    found += self.assert_sources(plan, row, sources)
        self.assertGreater(found, 100)

    def test_all_rows_and_sources_of_four_people(self):
        for plan in [PLAN, TWO, ("high", ("a", ("low", ("b", "c")))), ("high", ("b", "c", "a"))]:
            for row in itertools.permutations(range(1, 5)):
                for sources in itertools.product(sorted(lines_in(plan)), repeat=4):
                    self.assert_sources(plan, row, sources)

    def test_the_first_person_counts_and_not_the_outermost_junction(self):
        plan = ("low", (("high", ("a", "b")), "c"))
        # 7 breaks the condition at (0,), and 1 breaks it at () only behind that.
        self.assertEqual(find_fault(plan, (5, 7, 1), ("a", "b", "c")), ((0,), 7))
        self.assertEqual(find_fault(plan, (5, 1, 7), ("a", "c", "b")), ((), 1))

    def test_the_outermost_of_several_junctions_counts(self):
        plan = left_comb(["high", "high", "low"])
        # 6 comes from another part at (0,) and at (0, 0), and is not shorter than 5 at either.
        self.assertEqual(find_fault(plan, (5, 6), ("a", "b")), ((0, 0), 6))
        self.assertEqual(find_fault(plan, (5, 6), ("a", "c")), ((0,), 6))
        self.assertEqual(find_fault(plan, (5, 4, 6), ("a", "c", "b")), ((0,), 6))
        plan = ("high", ("a", ("high", ("b", "c"))))
        self.assertEqual(find_fault(plan, (3, 2, 4), ("c", "a", "b")), ((), 4))
        self.assertEqual(find_fault(plan, (3, 4), ("c", "b")), ((1,), 4))

    def test_the_person_before_them_at_the_junction_counts(self):
        plan = ("low", (("low", ("a", "b")), "c"))
        # 1 comes behind 9 of another part in the row, but behind 2 of the same line at (0,).
        self.assertEqual(find_fault(plan, (2, 9, 1), ("a", "c", "a")), ((), 1))
        plan = ("high", (("low", ("a", "b")), "c"))
        self.assertEqual(find_fault(plan, (2, 1, 9), ("a", "c", "a")), ((), 9))

    def test_by_position_and_by_name(self):
        names = ["plan", "row", "sources"]
        self.assert_calls(is_possible, names, (PLAN, ROW, SOURCES), True)
        self.assert_calls(find_fault, names, (PLAN, ROW, SOURCES), None)
        wrong = ("c", "c", "b", "a", "c", "b")
        self.assert_calls(is_possible, names, (PLAN, ROW, wrong), False)
        self.assert_calls(find_fault, names, (PLAN, ROW, wrong), ((), 1))


class WrongSourcesTest(Case):
    def assert_sources(self, sources, index, plan=PLAN, row=ROW):
        for function in ASKED:
            self.assert_error(InvalidSources, {"index": index}, function, plan, row, sources)

    def test_no_tuple(self):
        for value in other_values() + [list(SOURCES), "ccbaab", dict(zip(ROW, SOURCES))]:
            if not isinstance(value, tuple):
                with self.subTest(value=value):
                    self.assert_sources(value, None)
                    self.assert_sources(value, None, row=())

    def test_too_few_and_too_many_elements(self):
        for sources in [(), SOURCES[:5], SOURCES + ("a",), ("a",) * 40, (None,) * 5, (None,) + SOURCES]:
            self.assert_sources(sources, None)
        self.assert_sources(("a",), None, row=())
        self.assert_sources((), None, plan="a", row=(1,))

    def test_the_first_element_that_is_no_line_of_the_plan(self):
        for wrong in other_values() + ["d", "aa", "A", "", ("a",), ["a"], PLAN, "a ", Agreeing()]:
            with self.subTest(wrong=wrong):
                self.assert_sources((wrong,) + SOURCES[1:], 0)
                self.assert_sources(SOURCES[:5] + (wrong,), 5)
                self.assert_sources(SOURCES[:2] + (wrong, "a", wrong, "d"), 2)

    def test_the_order_of_the_errors(self):
        for function in ASKED:
            for sources in [None, (), ("z",) * 6, SOURCES]:
                for row in [[1], (0,), None, (5, 5)]:
                    for value in [("low", ("a",)), None, "A"]:
                        self.assert_error(InvalidPlan, {"value": value}, function, value, row, sources)
                self.assert_error(InvalidRow, {"index": 5}, function, PLAN, (4, 3, 2, 5, 1, 3), sources)
                self.assert_error(InvalidRow, {"index": 1}, function, PLAN, (4, True, 0), sources)
                self.assert_error(InvalidRow, {"index": None}, function, PLAN, list(ROW), sources)
                self.assert_error(InvalidRow, {"index": None}, function, PLAN, tuple(range(1, 42)), sources)

    def test_invalid_plans(self):
        for function in ASKED:
            for value in no_plans():
                self.assert_error(InvalidPlan, {"value": value}, function, value, ROW, SOURCES)


class CountSourcesTest(Case):
    def assert_counts(self, plan, row, known=()):
        expected = all_sources(plan, row, known)
        self.assertEqual(count_sources(plan, row, known=known), len(expected))
        first = first_sources(plan, row, known=known)
        self.assertEqual(first, expected[0] if expected else None)
        return len(expected)

    def test_the_interface(self):
        for function in COUNTED:
            self.assert_interface(function, "frontmeets.origins", ["plan", "row"], known=())

    def test_the_examples_of_the_document(self):
        row = (2, 1, 3)
        self.assertEqual([count_sources(TWO, row), count_sources(TWO, row, known=((1, "b"),))], [4, 2])
        self.assertEqual(
            [first_sources(TWO, row, known=known) for known in (((1, "b"),), ((1, "a"), (2, "b")))],
            [("b", "b", "a"), None],
        )

    def test_the_empty_row(self):
        for plan in SAMPLES:
            self.assertEqual(count_sources(plan, ()), 1)
            self.assertEqual(first_sources(plan, ()), ())
            self.assertEqual(count_sources(plan, (), known=()), 1)

    def test_one_line(self):
        for row in [(7,), (1, 2, 3), tuple(range(12, 0, -1))]:
            self.assertEqual(count_sources("b", row), 1)
            self.assertEqual(first_sources("b", row), ("b",) * len(row))
            known = ((row[0], "b"),)
            self.assertEqual(count_sources("b", row, known=known), 1)
            self.assertEqual(first_sources("b", row, known=known), ("b",) * len(row))

    def test_all_rows_of_up_to_four_people(self):
        plans = [PLAN, TWO, ("high", (("low", ("a", "b")), "c")), ("low", ("c", ("low", ("a", "b")))),
                 ("low", (("high", ("d", "a")), ("high", ("b", "c"))))]
        for plan in plans:
            for count in range(5):
                for row in itertools.permutations(range(1, count + 1)):
                    self.assert_counts(plan, row)

    def test_against_all_tuples_of_lines(self):
        chance = random.Random(31)
        for plan in SAMPLES:
            count = 5 if len(lines_in(plan)) < 5 else 3
            for _ in range(2):
                row = tuple(chance.sample(range(1, 1000), count))
                with self.subTest(plan=plan, row=row):
                    self.assertGreater(self.assert_counts(plan, row), 0)

    def test_known_people(self):
        chance = random.Random(37)
        none = 0
        for plan in list(PLANS[4:12]) + draw_plans(12, range(2, 5)):
            for _ in range(4):
                row = tuple(chance.sample(range(1, 1000), 5))
                told = sorted(chance.sample(row, chance.randint(1, 5)))
                known = tuple([(height, chance.choice(lines_in(plan))) for height in told])
                with self.subTest(plan=plan, row=row, known=known):
                    none += self.assert_counts(plan, row, known) == 0
        self.assertGreater(none, 20)

    def test_everybody_known(self):
        known = tuple(sorted(zip(ROW, SOURCES)))
        self.assertEqual(count_sources(PLAN, ROW, known=known), 1)
        self.assertEqual(first_sources(PLAN, ROW, known=known), SOURCES)
        known = tuple(sorted(zip(ROW, ("c", "c", "b", "a", "c", "b"))))
        self.assertEqual(count_sources(PLAN, ROW, known=known), 0)
        self.assertIsNone(first_sources(PLAN, ROW, known=known))

    def test_junctions_of_one_kind(self):
        chance = random.Random(41)
        for kind in ("low", "high"):
            for size in range(2, 9):
                for plan in [left_comb([kind] * (size - 1)), right_comb([kind] * (size - 1)),
                             (kind, tuple("hgfedcba"[:size]))]:
                    row = tuple(chance.sample(range(1, 1000), chance.randint(0, 12)))
                    trains = split_trains(row, kind)
                    self.assertEqual(count_sources(plan, row), size ** len(trains))
                    self.assertEqual(first_sources(plan, row), (min(lines_in(plan)),) * len(row))

    def test_twelve_people_in_eight_lines(self):
        up = tuple(range(1, 13))
        mixed = (6, 7, 5, 8, 4, 9, 3, 10, 2, 11, 1, 12)
        pairs = ("low", (("high", ("a", "b")), ("high", ("c", "d")), ("high", ("e", "f")), ("high", ("g", "h"))))
        plans = [plan for plan in PLANS if len(lines_in(plan)) == 8] + [pairs]
        for plan in plans:
            for row in [up, up[::-1], mixed]:
                first = first_sources(plan, row)
                self.assertEqual(first, ("a",) * 12)
                # Whoever may have come from one line may also have come from another one.
                self.assertGreaterEqual(count_sources(plan, row), 8)
        # The twelve trains come from one to four of the pairs, and all those from one pair are one
        # train there: (choices of pairs) * (trains onto them) * (lines of each pair).
        ways = 4 * 2 + 6 * (2 ** 12 - 2) * 4 + 4 * (3 ** 12 - 3 * 2 ** 12 + 3) * 8
        ways += (4 ** 12 - 4 * 3 ** 12 + 6 * 2 ** 12 - 4) * 16
        self.assertEqual(count_sources(pairs, up), ways)
        self.assertEqual(count_sources(pairs, up[::-1]), 4 * 2 ** 12)

    def test_twelve_known_people(self):
        plan = left_comb(["low", "high"] * 3 + ["low"])
        chance = random.Random(43)
        for _ in range(10):
            people = chance.sample(range(1, 1000), 12)
            crowd = tuple([(line, tuple(people[place::8])) for place, line in enumerate("abcdefgh")])
            row = run_plan(plan, crowd)
            sources = source_lines(plan, crowd)
            known = tuple(sorted(zip(row, sources)))
            self.assertEqual(count_sources(plan, row, known=known), 1)
            self.assertEqual(first_sources(plan, row, known=known), sources)
            for told in range(12):
                first = first_sources(plan, row, known=known[told:told + 2])
                self.assertIs(may_come(plan, row, first), True)
                self.assertLessEqual(first, sources)
                for height, line in known[told:told + 2]:
                    self.assertEqual(first[row.index(height)], line)

    def test_by_position_and_by_name(self):
        for function in COUNTED:
            self.assert_calls(function, ["plan", "row"], (PLAN, ROW), function(PLAN, ROW, known=()))
            with self.assertRaises(TypeError):
                function(PLAN, ROW, ((4, "c"),))
            known = ((1, "a"), (4, "c"))
            result = function(PLAN, ROW, known=known)
            self.assertEqual(function(known=known, row=ROW, plan=PLAN), result)
            self.assertEqual(function(PLAN, known=known, row=ROW), result)
            self.assertEqual(known, ((1, "a"), (4, "c")))
        self.assertEqual(len(all_sources(PLAN, ROW)), count_sources(PLAN, ROW))
        self.assertEqual(all_sources(PLAN, ROW, ((1, "a"), (4, "c")))[0],
                         first_sources(PLAN, ROW, known=((1, "a"), (4, "c"))))


class WrongKnownTest(Case):
    def assert_known(self, known, index, plan=PLAN, row=ROW):
        for function in COUNTED:
            with self.assertRaises(InvalidKnown) as held:
                function(plan, row, known=known)
            self.assertIs(type(held.exception), InvalidKnown)
            self.assertIs(type(held.exception.index), type(index))
            self.assertEqual(vars(held.exception), {"index": index})

    def test_no_tuple(self):
        for value in other_values() + [[(4, "c")], {4: "c"}, "a"]:
            if not isinstance(value, tuple):
                with self.subTest(value=value):
                    self.assert_known(value, None)
                    self.assert_known(value, None, row=())

    def test_an_element_that_is_no_pair_of_a_person_and_a_line(self):
        wrongs = other_values() + [
            [4, "c"], (4,), (4, "c", 1), ("c", 4), (4, "d"), (4, "C"), (4, None), (4, ("c",)), (4, ["c"]),
            (7, "c"), (0, "c"), (1000, "c"), (True, "c"), ("4", "c"), (None, "c"), ((4,), "c"), ([4], "c"),
            (Agreeing(), "c"), (4, Agreeing()), (4, PLAN), (4, ""), (-4, "c"), (10 ** 59, "c"),
        ]
        for wrong in wrongs:
            with self.subTest(wrong=wrong):
                self.assert_known((wrong,), 0)
                self.assert_known(((1, "a"), wrong), 1)
                self.assert_known(((1, "a"), (2, "b"), wrong, (6, "b"), None), 2)
                self.assert_known((wrong,), 0, row=())

    def test_heights_that_do_not_ascend(self):
        self.assert_known(((4, "c"), (1, "a")), 1)
        self.assert_known(((1, "a"), (4, "c"), (4, "c")), 2)
        self.assert_known(((1, "a"), (4, "c"), (1, "b"), (0, "a")), 2)

    def test_too_many_people(self):
        for count in (13, 14, 40):
            row = FORTY[:count]
            for plan in [PLAN, "a", PLANS[-1]]:
                for function in COUNTED:
                    self.assert_error(TooManyPeople, {"count": count}, function, plan, row)
                    for known in [None, [], ((row[0], "zz"),), ((row[0], "a"),), (None,)]:
                        with self.assertRaises(TooManyPeople) as held:
                            function(plan, row, known=known)
                        self.assertEqual(held.exception.count, count)
        self.assertEqual(count_sources("a", FORTY[:12]), 1)

    def test_the_order_of_the_errors(self):
        for function in COUNTED:
            for known in [None, (None,), ((4, "c"),), ()]:
                for value in [("low", ("a",)), None, "A"]:
                    with self.assertRaises(InvalidPlan) as held:
                        function(value, [1], known=known)
                    self.assertIs(held.exception.value, value)
                rows = [((4, 3, 4), 2), ((True,), 0), ([4], None), (tuple(range(1, 42)), None),
                        (tuple(range(1, 14)) + (0,), 13), (None, None)]
                for row, index in rows:
                    with self.assertRaises(InvalidRow) as held:
                        function(PLAN, row, known=known)
                    self.assertEqual(held.exception.index, index)

    def test_invalid_plans(self):
        for function in COUNTED:
            for value in no_plans():
                self.assert_error(InvalidPlan, {"value": value}, function, value, ROW)


if __name__ == "__main__":
    unittest.main()
