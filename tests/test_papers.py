import itertools
import random
import unittest

from frontmeets.checker import check
from frontmeets.equality import difference
from frontmeets.errors import (
    InvalidPlan, InvalidRecord, InvalidRow, InvalidRun, InvalidSources, InvalidTable, OtherLines,
)
from frontmeets.inference import find_kinds
from frontmeets.observations import find_order
from frontmeets.origins import find_fault
from frontmeets.papers import effect_paper, kind_paper, order_paper, source_paper, table_paper
from frontmeets.plans import flatten, lines_of
from frontmeets.running import run_plan, source_lines
from frontmeets.tables import find_plan
from tests.checks import Case
from tests.definitions import lines_in, shapes_of, table_in
from tests.samples import (
    NAMES, PLANS, draw_crowd, draw_plans, draw_waiting, left_comb, make_plan, no_plans, other_values,
    run_record,
)

PLAN = ("low", ("a", ("high", ("b", "c"))))
TWO = ("low", ("a", "b"))
WAITING = (("a", ("ann", "bob")), ("b", ("cy",)))
RECORD = (WAITING, ("ann", "cy", "bob"))
OTHER = (WAITING, ("ann", "bob", "cy"))
BROKEN = (WAITING, ("bob", "ann", "cy"))
PAIR = (("a", (1,)), ("b", (2,)))
RUNS = ((PAIR, (1, 2)), (PAIR, (2, 1)))
SAMPLES = list(PLANS) + draw_plans(5)
CONTRARY = {"same": "different", "plan": "no plan", "possible": "impossible", "order": "no order",
            "kinds": "no kinds"}
CONTRARY.update({other: word for word, other in list(CONTRARY.items())})


class PaperCase(Case):
    def assert_paper(self, function, names, word, *values):
        """Check the claim and that the checker accepts the paper for it, but not for the contrary one."""
        found = function(*values)
        self.assertEqual(function(**dict(zip(names, values))), found)
        self.assertEqual(function(*values), found)
        self.assertIs(type(found), tuple)
        self.assertEqual(len(found), 2)
        claim, paper = found
        self.assert_plain(found)
        self.assertEqual(claim[0], word)
        self.assertEqual(claim[1:], values)
        for part, value in zip(claim[1:], values):
            self.assertIs(part, value)
        self.assertIs(check(claim, paper), True)
        self.assertIs(check((CONTRARY[word],) + values, paper), False)
        return paper


class EffectPaperTest(PaperCase):
    def test_the_interface_and_the_example_of_the_document(self):
        self.assert_interface(effect_paper, "frontmeets.papers", ["plan", "other"])
        plan, other = TWO, ("high", ("a", "b"))
        self.assertEqual(effect_paper(plan, other), (("different", plan, other), ("a", "b")))

    def test_plans_with_the_same_effect(self):
        for plan in SAMPLES:
            for one, other in [(plan, flatten(plan)), (flatten(plan), plan), (plan, plan)]:
                steps = self.assert_paper(effect_paper, ["plan", "other"], "same", one, other)
                self.assertLessEqual(len(steps), 100)

    def test_plans_with_the_same_lines(self):
        drawn = random.Random(127)
        words = []
        for size in range(1, 9):
            for _ in range(12):
                plan, other = [make_plan(drawn, "abcdefgh"[:size]) for _ in range(2)]
                word = "same" if difference(plan, other) is None else "different"
                paper = self.assert_paper(effect_paper, ["plan", "other"], word, plan, other)
                if word == "different":
                    self.assertEqual(paper, difference(plan, other))
                words.append(word)
        self.assertGreater(words.count("same"), 10)
        self.assertGreater(words.count("different"), 40)

    def test_errors(self):
        for value in no_plans():
            self.assert_error(InvalidPlan, {"value": value}, effect_paper, value, None)
            self.assert_error(InvalidPlan, {"value": value}, effect_paper, "z", value)
            self.assert_error(InvalidPlan, {"value": value}, effect_paper, PLAN, value)
        for plan, other in [(PLAN, TWO), ("a", "b"), (TWO, ("low", ("a", "c"))), (PLAN, "a")]:
            self.assert_error(OtherLines, {}, effect_paper, plan, other)


class TablePaperTest(PaperCase):
    def test_the_interface_and_the_example_of_the_document(self):
        self.assert_interface(table_paper, "frontmeets.papers", ["table"])
        table = (("a", "b", "high"),)
        self.assertEqual(table_paper(table), (("plan", table), ("high", ("a", "b"))))

    def test_tables_with_and_without_plans(self):
        drawn = random.Random(131)
        tables = [table_in(plan) for plan in SAMPLES if isinstance(plan, tuple)]
        for size in range(2, 9):
            pairs = list(itertools.combinations("abcdefgh"[:size], 2))
            for _ in range(10):
                tables.append(tuple([pair + (drawn.choice(("low", "high")),) for pair in pairs]))
        words = []
        for table in tables:
            plan = find_plan(table)
            words.append("no plan" if plan is None else "plan")
            paper = self.assert_paper(table_paper, ["table"], words[-1], table)
            if plan is not None:
                self.assertEqual(paper, plan)
        self.assertGreater(words.count("plan"), 40)
        self.assertGreater(words.count("no plan"), 30)

    def test_errors(self):
        table = (("a", "b", "low"), ("a", "c", "low"), ("b", "c", "high"))
        for value in other_values():
            if not isinstance(value, tuple):
                self.assert_error(InvalidTable, {"index": None}, table_paper, value)
            self.assert_error(InvalidTable, {"index": 1}, table_paper, table[:1] + (value,))
        for value, index in [((), None), (table[:2], None), (table[::-1], 1), (list(table), None),
                             (table + table[2:], 3), ((("b", "a", "low"),), 0), ((("a", "b", "Low"),), 0)]:
            self.assert_error(InvalidTable, {"index": index}, table_paper, value)


class SourcePaperTest(PaperCase):
    def test_the_interface_and_the_example_of_the_document(self):
        self.assert_interface(source_paper, "frontmeets.papers", ["plan", "row", "sources"])
        self.assertEqual(source_paper(TWO, (2, 1), ("a", "b")),
                         (("impossible", TWO, (2, 1), ("a", "b")), ((), 1)))

    def test_possible_and_impossible_sources(self):
        drawn = random.Random(137)
        words = []
        names = ["plan", "row", "sources"]
        for plan in SAMPLES:
            for most in (0, 4, 40):
                crowd = draw_crowd(drawn, lines_in(plan), most)
                row = run_plan(plan, crowd)
                paper = self.assert_paper(source_paper, names, "possible", plan, row, source_lines(plan, crowd))
                self.assertIsNone(paper)
                sources = tuple(drawn.choices(lines_in(plan), k=len(row)))
                fault = find_fault(plan, row, sources)
                words.append("possible" if fault is None else "impossible")
                self.assertEqual(self.assert_paper(source_paper, names, words[-1], plan, row, sources), fault)
        self.assertGreater(words.count("impossible"), 50)

    def test_errors(self):
        for value in no_plans():
            self.assert_error(InvalidPlan, {"value": value}, source_paper, value, None, None)
        for row, index in [([2, 1], None), ((2, 2), 1), ((2, True), 1), (tuple(range(41)), None), (None, None)]:
            self.assert_error(InvalidRow, {"index": index}, source_paper, TWO, row, None)
        for sources, index in [(("a",), None), (["a", "b"], None), (("a", "c"), 1), (("A", "c"), 0), (None, None)]:
            self.assert_error(InvalidSources, {"index": index}, source_paper, TWO, (2, 1), sources)


class OrderPaperTest(PaperCase):
    def test_the_interface_and_the_example_of_the_document(self):
        self.assert_interface(order_paper, "frontmeets.papers", ["plan", "records"])
        claim, paper = order_paper(TWO, (((("a", ("ann", "bob")),), ("bob", "ann")),))
        self.assertEqual([claim[0], paper], ["no order", ("line", 0)])

    def assert_order(self, plan, records):
        order = find_order(plan, records)
        word = "no order" if order is None else "order"
        paper = self.assert_paper(order_paper, ["plan", "records"], word, plan, records)
        if order is not None:
            self.assertEqual(paper, order)
            return word
        return paper[0]

    def test_examples(self):
        self.assertEqual(self.assert_order(TWO, (RECORD,)), "order")
        self.assertEqual(self.assert_order(TWO, (RECORD, OTHER)), "cycle")
        self.assertEqual(self.assert_order(TWO, (RECORD, OTHER, BROKEN)), "line")
        self.assertEqual(order_paper(TWO, (RECORD, BROKEN))[1], ("line", 1))
        records = tuple([
            ((("a", (one,)), ("b", (other, third))), (one, other, third))
            for one, other, third in [("x", "y", "z"), ("y", "z", "x"), ("z", "x", "y")]
        ])
        self.assertEqual(self.assert_order(TWO, records), "cycle")
        record = ((("a", ("x",)), ("b", ("y",)), ("c", ("z",))), ("y", "x", "z"))
        self.assertEqual(self.assert_order(PLAN, (record,)), "cycle")

    def test_cycles_behind_and_before_other_names(self):
        # d is before all of the cycle and e behind it; only x, y and z are in a circle.
        records = tuple([
            ((("a", ("d", one)), ("b", (other, third, "e"))), ("d", one, other, third, "e"))
            for one, other, third in [("x", "y", "z"), ("y", "z", "x"), ("z", "x", "y")]
        ])
        self.assertEqual(self.assert_order(TWO, records), "cycle")
        steps = order_paper(TWO, records)[1][1]
        self.assertGreater(len(steps), 1)

    def test_records_of_orders_and_any_records(self):
        drawn = random.Random(139)
        words = []
        for plan in SAMPLES:
            for count in (2, 4, 7, 12):
                names = NAMES[:count]
                order = tuple(drawn.sample(names, count))
                other = tuple(drawn.sample(names, count))
                lines = lines_of(plan)
                records = [run_record(plan, draw_waiting(drawn, lines, names), order) for _ in range(3)]
                words.append(self.assert_order(plan, tuple(records)))
                self.assertEqual(words[-1], "order")
                records.append(run_record(plan, draw_waiting(drawn, lines, names), other))
                words.append(self.assert_order(plan, tuple(records)))
                records.append((draw_waiting(drawn, lines, names), other))
                words.append(self.assert_order(plan, tuple(records)))
        self.assertGreater(words.count("cycle"), 100)
        self.assertGreater(words.count("line"), 50)

    def test_errors(self):
        for value in no_plans():
            self.assert_error(InvalidPlan, {"value": value}, order_paper, value, None)
        for records, index in [((), None), ([RECORD], None), ((RECORD,) * 13, None), (RECORD, 0), (None, None),
                               ((RECORD, None), 1), ((RECORD, ((("a", ("x", "y")),), ("x", "y"))), 1),
                               ((BROKEN, RECORD, ((("c", ("ann", "bob", "cy")),), ("ann", "bob", "cy"))), 2)]:
            self.assert_error(InvalidRecord, {"index": index}, order_paper, TWO, records)


class KindPaperTest(PaperCase):
    def test_the_interface_and_the_example_of_the_document(self):
        self.assert_interface(kind_paper, "frontmeets.papers", ["plan", "runs"])
        claim, paper = kind_paper(TWO, RUNS)
        self.assertEqual([claim[0], paper], ["no kinds", ("junction", (), 1, 0)])

    def assert_kinds(self, plan, runs):
        changed = find_kinds(plan, runs)
        word = "no kinds" if changed is None else "kinds"
        paper = self.assert_paper(kind_paper, ["plan", "runs"], word, plan, runs)
        if changed is not None:
            self.assertEqual(paper, changed)
            return word
        return paper[0]

    def test_examples(self):
        broken = ((("a", (1, 2)),), (2, 1))
        self.assertEqual(self.assert_kinds(TWO, (RUNS[0],)), "kinds")
        self.assertEqual(self.assert_kinds(TWO, RUNS), "junction")
        self.assertEqual(self.assert_kinds("a", (broken,)), "line")
        self.assertEqual(kind_paper(TWO, RUNS + (broken, broken))[1], ("line", 2))
        self.assertEqual(kind_paper(("low", (TWO, "c")), RUNS)[1], ("junction", (0,), 1, 0))
        crowd = (("a", (1, 3)), ("b", (2, 4)))
        runs = ((PAIR, (2, 1)), (crowd, (1, 2, 4, 3)))
        self.assertEqual(self.assert_kinds(TWO, runs), "junction")
        self.assertEqual(kind_paper(TWO, runs[1:])[1], ("junction", (), 0, 0))

    def test_runs_of_plans_of_this_shape_and_of_others(self):
        drawn = random.Random(149)
        words = []
        for plan in SAMPLES:
            for most in (3, 6, 40):
                shape, other = drawn.choices(shapes_of(plan), k=2)
                crowds = [draw_crowd(drawn, lines_in(plan), most) for _ in range(3)]
                runs = [(crowd, run_plan(shape, crowd)) for crowd in crowds]
                words.append(self.assert_kinds(plan, tuple(runs)))
                self.assertEqual(words[-1], "kinds")
                runs[1] = (crowds[1], run_plan(other, crowds[1]))
                words.append(self.assert_kinds(plan, tuple(runs)))
                runs[2] = (crowds[2], tuple(drawn.sample(runs[2][1], len(runs[2][1]))))
                words.append(self.assert_kinds(plan, tuple(runs)))
        self.assertGreater(words.count("junction"), 20)
        self.assertGreater(words.count("line"), 40)

    def test_errors(self):
        for value in no_plans():
            self.assert_error(InvalidPlan, {"value": value}, kind_paper, value, None)
        for runs, index in [((), None), ([RUNS[0]], None), ((RUNS[0],) * 13, None), (RUNS[0], 0), (None, None),
                            ((RUNS[0], None), 1), ((RUNS[0], (PAIR, (1, 3))), 1), (RUNS + ((PAIR, (1,)),), 2),
                            ((((("c", ()),), ()),), 0)]:
            self.assert_error(InvalidRun, {"index": index}, kind_paper, TWO, runs)
        plan = left_comb(["low"] * 7)
        self.assertEqual(kind_paper(plan, RUNS[:1])[0][0], "kinds")


if __name__ == "__main__":
    unittest.main()
