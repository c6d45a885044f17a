"""Checks over the whole program, from a table to papers that are all accepted."""

import itertools
import random
import unittest

from frontmeets.checker import check
from frontmeets.console import Console
from frontmeets.equality import apply_step, count_plans, derivation, difference, same_effect
from frontmeets.inference import chance, count_kinds, find_kinds
from frontmeets.notation import format_plan, parse_plan
from frontmeets.observations import count_orders, find_order, is_shorter
from frontmeets.origins import count_sources, first_sources, is_possible
from frontmeets.papers import effect_paper, kind_paper, order_paper, source_paper, table_paper
from frontmeets.plans import flatten, kind_between, kind_table, lines_of, restrict, without_line
from frontmeets.running import exchanged, next_person, run_plan, source_lines
from frontmeets.tables import find_plan
from frontmeets.yard import Yard, replay
from tests.checks import Case
from tests.samples import NAMES, draw_plans

SAMPLES = draw_plans(6, range(2, 9))


def fill_yard(drawn, plan, count):
    """Return a yard with the plan, and the heights that have entered any lines, in order."""
    yard = Yard(plan)
    heights = drawn.sample(range(1, 1000), count)
    for height in heights:
        yard.enter(drawn.choice(lines_of(plan)), height)
    return yard, heights


def name_people(crowd, row):
    """Return the record in which the people of the run have names, and the order of their heights."""
    heights = sorted(row)
    names = dict(zip(heights, NAMES))
    waiting = tuple([(line, tuple([names[height] for height in people])) for line, people in crowd])
    return (waiting, tuple([names[height] for height in row])), tuple([names[height] for height in heights])


class ProgramTest(Case):
    def assert_accepted(self, paper, word):
        """Check that the pair is a claim with this word that the checker accepts."""
        self.assertEqual(paper[0][0], word)
        self.assertIs(check(*paper), True)

    def test_from_a_table_to_papers(self):
        drawn = random.Random(151)
        for sample in SAMPLES:
            table = kind_table(sample)
            plan = find_plan(table)
            self.assertEqual(plan, flatten(sample))
            self.assert_accepted(table_paper(table), "plan")
            self.assert_accepted(effect_paper(plan, sample), "same")
            self.assert_accepted(effect_paper(sample, plan), "same")
            yard, heights = fill_yard(drawn, sample, drawn.randint(2, 12))
            crowd = yard.crowd()
            row = yard.rest()
            self.assertEqual(row, run_plan(plan, crowd))
            sources = source_lines(plan, crowd)
            self.assert_accepted(source_paper(plan, row, sources), "possible")
            self.assert_accepted(source_paper(sample, row, sources), "possible")
            self.assertGreaterEqual(count_sources(plan, row), 1)
            self.assertLessEqual(first_sources(plan, row), sources)
            record, order = name_people(crowd, row)
            self.assert_accepted(order_paper(plan, (record,)), "order")
            self.assertIs(check(("order", sample, (record,)), order), True)
            self.assertLessEqual(find_order(sample, (record,)), order)
            self.assert_accepted(kind_paper(sample, ((crowd, row),)), "kinds")
            self.assertIs(check(("kinds", sample, ((crowd, row),)), sample), True)
            self.assertGreaterEqual(count_kinds(sample, ((crowd, row),)), 1)
            self.assertGreater(chance(sample, (1, 2), crowd, row)[0], 0)

    def test_tables_without_a_plan(self):
        drawn = random.Random(157)
        for size in range(4, 9):
            pairs = list(itertools.combinations("abcdefgh"[:size], 2))
            found = 0
            while found < 5:
                table = tuple([pair + (drawn.choice(("low", "high")),) for pair in pairs])
                if find_plan(table) is None:
                    self.assert_accepted(table_paper(table), "no plan")
                    found += 1

    def test_exactly_one_of_two_statements_is_true(self):
        # Point 3: steps lead from one plan to the other, or one person in each of two lines differ.
        for plan, other in itertools.combinations([plan for plan in SAMPLES if len(lines_of(plan)) == 4], 2):
            paper = effect_paper(plan, other)
            self.assert_accepted(paper, "same" if same_effect(plan, other) else "different")
            if paper[0][0] == "same":
                reached = plan
                for step in paper[1]:
                    reached = apply_step(reached, step)
                self.assertEqual(reached, other)
            else:
                crowd = tuple([(line, (height,)) for height, line in enumerate(paper[1], 1)])
                self.assertNotEqual(run_plan(plan, crowd), run_plan(other, crowd))

    def test_all_effects_of_three_lines(self):
        tables = [
            tuple([pair + (kind,) for pair, kind in zip((("a", "b"), ("a", "c"), ("b", "c")), kinds)])
            for kinds in itertools.product(("low", "high"), repeat=3)
        ]
        plans = [find_plan(table) for table in tables]
        self.assertEqual(len(plans), count_plans(3))
        for plan, other in itertools.permutations(plans, 2):
            self.assert_accepted(effect_paper(plan, other), "different")
            self.assertIsNotNone(difference(plan, other))

    def test_sources_that_are_possible_are_those_that_were_counted(self):
        drawn = random.Random(163)
        for plan in SAMPLES[:18]:
            yard, heights = fill_yard(drawn, plan, 4)
            row = yard.rest()
            count = 0
            for sources in itertools.product(lines_of(plan), repeat=4):
                possible = is_possible(plan, row, sources)
                self.assert_accepted(source_paper(plan, row, sources), "possible" if possible else "impossible")
                count += possible
            self.assertEqual(count, count_sources(plan, row))

    def test_a_yard_and_the_functions(self):
        drawn = random.Random(167)
        for plan in SAMPLES:
            yard, heights = fill_yard(drawn, plan, 12)
            line = drawn.choice(lines_of(plan))
            pairs = exchanged(plan, yard.crowd(), line, 1000 - 1 if 999 not in heights else 998)
            before = yard.rest()
            yard.enter(line, 999 if 999 not in heights else 998)
            after = yard.rest()
            for first, second in itertools.combinations(before, 2):
                self.assertIs(after.index(first) > after.index(second), (first, second) in pairs)
            yard.undo()
            self.assertEqual(yard.rest(), before)
            self.assertEqual(next_person(plan, yard.crowd()), before[0])
            while yard:
                yard.go()
            self.assertEqual(yard.gone(), before)
            for closed in lines_of(plan)[1:]:
                expected = without_line(yard.plan(), closed)
                yard.close_line(closed)
                self.assertEqual(yard.plan(), expected)
                if len(lines_of(expected)) > 1:
                    self.assertEqual(flatten(expected), restrict(plan, lines_of(expected)))
            self.assertEqual(replay(plan, yard.log()), yard)

    def test_a_console_and_a_yard(self):
        drawn = random.Random(173)
        for plan in SAMPLES:
            console = Console(format_plan(plan))
            yard, heights = fill_yard(drawn, plan, 12)
            for deed in yard.log():
                self.assertEqual(console.say(" ".join([str(part) for part in deed])), "ok")
            self.assertEqual(console.say("rest"), " ".join([str(height) for height in yard.rest()]))
            self.assertEqual(parse_plan(console.say("plan")), yard.plan())
            self.assertEqual(console.say("same " + format_plan(flatten(plan))), "yes")
            for one, other in itertools.permutations(lines_of(plan), 2):
                self.assertEqual(console.say(f"kind {one} {other}"), kind_between(plan, one, other))
            self.assertEqual(console.say("go"), str(yard.go()))
            self.assertEqual(console.say("undo"), "ok")
            self.assertEqual(console.say("deeds"), "12")

    def test_records_and_runs_of_two_plans(self):
        drawn = random.Random(179)
        words = []
        for plan, other in zip(SAMPLES, SAMPLES[1:]):
            if lines_of(plan) != lines_of(other):
                continue
            yard, heights = fill_yard(drawn, plan, 8)
            crowd = yard.crowd()
            runs = ((crowd, run_plan(plan, crowd)), (crowd, run_plan(other, crowd)))
            word = "no kinds" if find_kinds(plan, runs) is None else "kinds"
            self.assert_accepted(kind_paper(plan, runs), word)
            words.append(word)
            records = tuple([name_people(crowd, row)[0] for _, row in runs])
            order = find_order(plan, records)
            words.append("no order" if order is None else "order")
            self.assert_accepted(order_paper(plan, records), words[-1])
            if order is not None:
                self.assertGreater(count_orders(plan, records), 0)
                for one, two in itertools.permutations(order, 2):
                    if is_shorter(plan, records, one, two):
                        self.assertLess(order.index(one), order.index(two))
        self.assertIn("no kinds", words)
        self.assertIn("no order", words)

    def test_equal_calls_return_equal_results(self):
        plan = SAMPLES[-1]
        drawn = random.Random(181)
        yard, heights = fill_yard(drawn, plan, 12)
        row = yard.rest()
        self.assertEqual(derivation(plan, flatten(plan)), derivation(plan, flatten(plan)))
        self.assertEqual(count_sources(plan, row), count_sources(flatten(plan), row))
        self.assertEqual(first_sources(plan, row), first_sources(flatten(plan), row))


if __name__ == "__main__":
    unittest.main()
