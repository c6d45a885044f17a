import ast
import itertools
import pathlib
import random
import unittest

from frontmeets import checker
from frontmeets.checker import check
from frontmeets.equality import derivation, difference
from frontmeets.inference import find_kinds
from frontmeets.observations import comparisons, find_order
from frontmeets.origins import find_fault
from frontmeets.plans import flatten
from frontmeets.running import run_plan, source_lines
from frontmeets.tables import find_four, find_plan
from tests.checks import Case
from tests.definitions import breakers_at, junctions_in, kinds_in, lines_in, result_of, shapes_of
from tests.samples import PLANS, Agreeing, draw_crowd, draw_plans, left_comb, other_values

PLAN = ("low", ("a", ("high", ("b", "c"))))
TWO = ("low", ("a", "b"))
CHAIN = (("a", "b", "low"), ("a", "c", "high"), ("a", "d", "high"),
         ("b", "c", "low"), ("b", "d", "high"), ("c", "d", "low"))
ROW = (4, 3, 2, 5, 1, 6)
SOURCES = ("c", "c", "b", "a", "a", "b")
FAULT = ("c", "c", "b", "a", "c", "b")
WAITING = (("a", ("ann", "bob")), ("b", ("cy",)))
RECORD = (WAITING, ("ann", "cy", "bob"))
OTHER = (WAITING, ("ann", "bob", "cy"))
BROKEN = (WAITING, ("bob", "ann", "cy"))
CROWD = (("a", (5, 1)), ("b", (2, 6)), ("c", (4, 3)))
RUN = (CROWD, ROW)
PAIR = (("a", (1,)), ("b", (2,)))
RUNS = ((PAIR, (1, 2)), (PAIR, (2, 1)))
SAMPLES = list(PLANS) + draw_plans(4)
CONTRARY = {"same": "different", "plan": "no plan", "possible": "impossible", "order": "no order",
            "kinds": "no kinds"}
CONTRARY.update({other: word for word, other in list(CONTRARY.items())})
# A good paper for a claim of each word and each form of a paper.
EVIDENCE = (
    (("same", PLAN, PLAN), ()),
    (("same", TWO, ("low", ("b", "a"))), (("exchange", (), 0),)),
    (("same", ("low", ("a", ("low", ("b", "c")))), ("low", ("a", "b", "c"))), (("join", (), 1),)),
    (("same", ("low", ("a", "b", "c")), ("low", (("low", ("a", "b")), "c"))), (("group", (), 0, 1),)),
    (("same", ("low", (TWO, "c")), ("low", (("low", ("b", "a")), "c"))), (("exchange", (0,), 0),)),
    (("different", TWO, ("high", ("a", "b"))), ("a", "b")),
    (("different", PLAN, ("low", ("a", "b", "c"))), ("c", "b")),
    (("plan", (("a", "b", "high"),)), ("high", ("b", "a"))),
    (("plan", (("a", "b", "low"), ("a", "c", "low"), ("b", "c", "high"))), PLAN),
    (("no plan", CHAIN), ("a", "b", "c", "d")),
    (("possible", PLAN, ROW, SOURCES), None),
    (("possible", "a", (), ()), None),
    (("impossible", TWO, (2, 1), ("a", "b")), ((), 1)),
    (("impossible", ("low", ("c", ("high", ("b", "a")))), (3, 4), ("a", "b")), ((1,), 4)),
    (("order", TWO, (RECORD,)), ("ann", "cy", "bob")),
    (("order", TWO, (OTHER, OTHER)), ("bob", "ann", "cy")),
    (("no order", TWO, (RECORD, BROKEN)), ("line", 1)),
    (("no order", TWO, (RECORD, OTHER)), ("cycle", (("bob", "cy", 1), ("cy", "bob", 0)))),
    (("kinds", ("high", ("a", ("low", ("b", "c")))), (RUN,)), PLAN),
    (("no kinds", TWO, ((PAIR, (1, 2)), ((("a", (1, 2)),), (2, 1)))), ("line", 1)),
    (("no kinds", TWO, RUNS), ("junction", (), 1, 0)),
    (("no kinds", ("low", (TWO, "c")), RUNS), ("junction", (0,), 1, 0)),
)


def spoiled(value):
    """Return the list of values like this one in which one part is of a wrong kind."""
    found = [Agreeing(), [value], {1: value}]
    if isinstance(value, tuple):
        found += [list(value), value + (None,), value + (Agreeing(),)]
        for index, part in enumerate(value):
            found += [value[:index] + (other,) + value[index + 1:] for other in spoiled(part)]
    if isinstance(value, str):
        found += [value.upper(), value + " ", value.encode(), "", None, 1, (value,), value + "\n"]
    if isinstance(value, int):
        found += [value - 1000, value + 1000, str(value), None, True, False, (value,)]
    return found


def other_than(value, part):
    """Tell whether the value is another one than this part, even if it says that it is equal."""
    return type(value) is not type(part) or value != part


def holds(claim):
    """Tell whether the claim, which is of the right form, is true."""
    word = claim[0]
    if word in ("no plan", "impossible", "no order", "no kinds"):
        return not holds((CONTRARY[word],) + claim[1:])
    if word in ("same", "different"):
        kinds, others = kinds_in(claim[1]), kinds_in(claim[2])
        if sorted(lines_in(claim[1])) != sorted(lines_in(claim[2])):
            return False
        return (kinds == others) is (word == "same")
    if word == "plan":
        return find_plan(claim[1]) is not None
    if word == "possible":
        _, plan, row, sources = claim
        people = list(zip(row, sources))
        return not any([breakers_at(junction, people) for _, junction in junctions_in(plan)])
    if word == "order":
        return find_order(claim[1], claim[2]) is not None
    return any([
        all([result_of(shape, dict(crowd)) == row for crowd, row in claim[2]]) for shape in shapes_of(claim[1])
    ])


class CheckCase(Case):
    def assert_good(self, claim, paper):
        self.assertIs(check(claim, paper), True)
        self.assertIs(check(claim=claim, paper=paper), True)
        self.assertTrue(holds(claim))

    def assert_bad(self, claim, paper):
        self.assertIs(check(claim, paper), False)


class CheckTest(CheckCase):
    def test_the_interface(self):
        self.assert_interface(check, "frontmeets.checker", ["claim", "paper"])

    def test_what_the_module_imports(self):
        tree = ast.parse(pathlib.Path(checker.__file__).read_text("utf-8"))
        modules = {node.module for node in ast.walk(tree) if isinstance(node, ast.ImportFrom)}
        allowed = {"frontmeets." + name for name in ("limits", "errors", "rows", "meeting", "plans")}
        self.assertLessEqual(modules, allowed)
        self.assertEqual([node for node in ast.walk(tree) if isinstance(node, ast.Import)], [])

    def test_the_examples_of_the_document(self):
        claim = ("same", ("low", ("a", ("low", ("b", "c")))), ("low", ("a", "b", "c")))
        self.assertEqual([check(claim, (("join", (), 1),)), check(claim, ())], [True, False])
        self.assertIs(check(("impossible", TWO, (2, 1), ("a", "b")), ((), 1)), True)
        self.assertIs(check(("possible", TWO, (2, 1), ("a", "a")), None), True)

    def test_good_papers_and_the_contrary_claims(self):
        self.assertEqual({claim[0] for claim, _ in EVIDENCE}, set(CONTRARY))
        for claim, paper in EVIDENCE:
            with self.subTest(claim=claim):
                self.assert_good(claim, paper)
                contrary = (CONTRARY[claim[0]],) + claim[1:]
                for _, other in EVIDENCE:
                    self.assert_bad(contrary, other)

    def test_papers_in_which_one_part_is_of_a_wrong_kind(self):
        for claim, paper in EVIDENCE:
            for wrong in spoiled(paper):
                with self.subTest(claim=claim, wrong=wrong):
                    self.assert_bad(claim, wrong)

    def test_claims_in_which_one_part_is_of_a_wrong_kind(self):
        for claim, paper in EVIDENCE:
            for wrong in spoiled(claim):
                with self.subTest(wrong=wrong):
                    self.assert_bad(wrong, paper)

    def test_too_few_and_too_many_parts(self):
        for claim, paper in EVIDENCE:
            for wrong in [claim[:-1], claim[1:], claim + ((),), claim + claim[-1:], (claim,), claim[:1]]:
                self.assert_bad(wrong, paper)
            if isinstance(paper, tuple) and paper and claim[0] not in ("same", "no order"):
                self.assert_bad(claim, paper[:-1])
                self.assert_bad(claim, paper + paper[-1:])

    def test_unknown_words(self):
        for claim, paper in EVIDENCE:
            for word in ["", "Same", "equal", "same ", "noplan", "no  plan", "line", None, True, ("same",)]:
                self.assert_bad((word,) + claim[1:], paper)

    def test_values_of_any_kind(self):
        # Among the values is one line, which is a plan with the same effect as itself.
        self.assert_good(("same", "lo", "lo"), ())
        for value in [value for value in other_values() if value != "lo"] + [(), ((),), EVIDENCE]:
            for claim, paper in EVIDENCE:
                if other_than(value, paper):
                    self.assert_bad(claim, value)
                self.assert_bad(value, paper)
                self.assert_bad((claim[0], value), paper)
                self.assert_bad((claim[0], value, value), paper)
                self.assert_bad((claim[0], value, value, value), paper)
                for place, part in enumerate(claim):
                    if other_than(value, part):
                        self.assert_bad(claim[:place] + (value,) + claim[place + 1:], paper)

    def test_what_is_accepted_is_true(self):
        # All parts of claims and papers of one word are put together anew.
        accepted = 0
        for word in CONTRARY:
            chosen = [(claim, paper) for claim, paper in EVIDENCE if claim[0] in (word, CONTRARY[word])]
            for parts in itertools.product(*list(zip(*[claim[1:] for claim, _ in chosen]))):
                for _, paper in chosen:
                    claim = (word,) + parts
                    if check(claim, paper):
                        accepted += 1
                        self.assertTrue(holds(claim), claim)
        self.assertGreater(accepted, 25)

    def test_what_is_passed_stays_as_it_was(self):
        paper = [["join", [], 1]]
        self.assert_bad(("same", PLAN, PLAN), paper)
        self.assertEqual(paper, [["join", [], 1]])


class EffectTest(CheckCase):
    def test_steps_between_plans_with_the_same_effect(self):
        for plan in SAMPLES:
            flat = flatten(plan)
            for one, other in [(plan, flat), (flat, plan), (plan, plan)]:
                steps = derivation(one, other)
                self.assert_good(("same", one, other), steps)
                self.assert_bad(("different", one, other), steps)
                self.assert_bad(("same", one, "zz"), steps)
                for place in range(len(steps)):
                    wrong = steps[:place] + steps[place + 1:]
                    if check(("same", one, other), wrong):
                        self.assertTrue(holds(("same", one, other)))

    def test_a_hundred_steps(self):
        step = ("exchange", (), 0)
        turned = ("low", ("b", "a"))
        self.assert_good(("same", TWO, TWO), (step,) * 100)
        self.assert_good(("same", TWO, turned), (step,) * 99)
        self.assert_bad(("same", TWO, turned), (step,) * 100)
        self.assert_bad(("same", TWO, turned), (step,) * 101)
        self.assert_bad(("same", TWO, TWO), (step,) * 102)

    def test_steps_that_cannot_be_made(self):
        plan = ("low", ("a", "b", "c"))
        other = ("low", ("b", "a", "c"))
        good = ("exchange", (), 0)
        self.assert_good(("same", plan, other), (good,))
        for step in [("join", (), 0), ("group", (), 0, 2), ("group", (), 1, 1), ("exchange", (), 2), None, (),
                     ("exchange", (), -1), ("exchange", (0,), 0), ("exchange", (3,), 0), ("exchange", (-1,), 0),
                     ("exchange", [], 0), ["exchange", (), 0], ("exchange", (), False), ("exchange", ()),
                     ("exchange", (), 0, 0), ("turn", (), 0), ("exchange",)]:
            self.assert_bad(("same", plan, other), (good, step))
            self.assert_bad(("same", plan, other), (step, good))
            self.assert_bad(("same", plan, plan), (step,))
        self.assert_bad(("same", plan, other), good)
        # A group of all parts is no step, although a join would take it back.
        self.assert_bad(("same", plan, plan), (("group", (), 0, 2), ("join", (), 0)))
        self.assert_good(("same", plan, plan), (("group", (), 0, 1), ("join", (), 0)))

    def test_plans_that_are_not_the_same(self):
        self.assert_bad(("same", TWO, ("high", ("a", "b"))), ())
        self.assert_bad(("same", "a", "b"), ())
        self.assert_bad(("same", TWO, "a"), ())
        self.assert_good(("same", "a", "a"), ())

    def test_lines_that_show_a_difference(self):
        found = 0
        for one, other in itertools.product(SAMPLES, repeat=2):
            if sorted(lines_in(one)) == sorted(lines_in(other)) and len(lines_in(one)) > 1:
                pair = difference(one, other)
                if pair is not None:
                    self.assert_good(("different", one, other), pair)
                    self.assert_good(("different", one, other), pair[::-1])
                    found += 1
                kinds, others = kinds_in(one), kinds_in(other)
                for lines in itertools.product(lines_in(one), repeat=2):
                    differs = lines in kinds and kinds[lines] != others[lines]
                    self.assertIs(check(("different", one, other), lines), differs)
        self.assertGreater(found, 20)

    def test_wrong_pairs_of_lines(self):
        claim = ("different", PLAN, ("low", ("a", "b", "c")))
        for paper in [("a", "b"), ("b", "b"), ("b", "d"), ("d", "b"), ("b",), ("b", "c", "a"), ["b", "c"], "bc",
                      ("B", "c"), (("b",), "c"), None, (), ("b", None)]:
            self.assert_bad(claim, paper)

    def test_plans_with_other_lines_are_not_compared(self):
        self.assert_bad(("different", TWO, ("high", ("a", "b", "c"))), ("a", "b"))
        self.assert_bad(("different", ("high", ("a", "b", "c")), TWO), ("a", "b"))
        self.assert_bad(("different", TWO, ("high", ("a", "c"))), ("a", "b"))
        self.assert_bad(("different", "a", "b"), ("a", "b"))


class TableTest(CheckCase):
    def test_all_tables_of_four_lines(self):
        pairs = list(itertools.combinations("abcd", 2))
        plans = {}
        for kinds in itertools.product(("low", "high"), repeat=6):
            table = tuple([pair + (kind,) for pair, kind in zip(pairs, kinds)])
            plan = find_plan(table)
            if plan is not None:
                plans[table] = plan
                self.assert_good(("plan", table), plan)
            for four in itertools.product("abcd", repeat=4):
                w, x, y, z = four
                found = dict(zip([frozenset(pair) for pair in pairs], kinds))
                near = [found.get(frozenset(pair)) for pair in ((w, x), (x, y), (y, z))]
                far = [found.get(frozenset(pair)) for pair in ((w, y), (x, z), (w, z))]
                shows = near + far in (["low"] * 3 + ["high"] * 3, ["high"] * 3 + ["low"] * 3)
                self.assertIs(check(("no plan", table), four), shows)
            if plan is None:
                self.assert_good(("no plan", table), find_four(table))
        self.assertEqual(len(plans), 52)
        for table, plan in itertools.product(plans, plans.values()):
            self.assertIs(check(("plan", table), plan), plans[table] == plan)

    def test_plans_that_are_not_flat(self):
        table = (("a", "b", "low"), ("a", "c", "low"), ("b", "c", "low"))
        for plan in [("low", ("c", "b", "a")), ("low", ("b", ("low", ("c", "a")))), ("low", (TWO, "c"))]:
            self.assert_good(("plan", table), plan)

    def test_plans_that_do_not_fit(self):
        table = (("a", "b", "low"), ("a", "c", "low"), ("b", "c", "high"))
        for plan in ["a", TWO, ("low", ("a", "b", "c")), ("low", ("a", ("high", ("b", "d")))),
                     ("low", ("a", ("high", ("b", "c", "d")))), ("low", ("a", ("high", ("b", "c"), ()))), None]:
            self.assert_bad(("plan", table), plan)

    def test_tables_that_are_none(self):
        self.assert_bad(("plan", ()), "a")
        self.assert_bad(("plan", (("a", "b", "low"), ("a", "c", "low"))), TWO)
        self.assert_bad(("plan", (("b", "a", "low"),)), ("low", ("b", "a")))
        self.assert_bad(("no plan", CHAIN[:5]), ("a", "b", "c", "d"))
        self.assert_bad(("no plan", CHAIN[::-1]), ("a", "b", "c", "d"))
        self.assert_bad(("no plan", CHAIN + CHAIN), ("a", "b", "c", "d"))
        self.assert_bad(("no plan", CHAIN + (("e", "f", "low"),)), ("a", "b", "c", "d"))

    def test_wrong_fours(self):
        claim = ("no plan", CHAIN)
        for paper in [("a", "b", "c"), ("a", "b", "c", "d", "a"), ("a", "b", "c", "e"), ["a", "b", "c", "d"], "abcd",
                      ("a", "b", "c", None), (("a",), "b", "c", "d"), (["a"], "b", "c", "d"), ("a", "b", "b", "d")]:
            self.assert_bad(claim, paper)
        self.assert_good(claim, ("d", "c", "b", "a"))
        self.assert_good(claim, ("b", "d", "a", "c"))

    def test_eight_lines(self):
        pairs = itertools.combinations("abcdefgh", 2)
        table = tuple([pair + ("low" if ord(pair[1]) - ord(pair[0]) == 1 else "high",) for pair in pairs])
        self.assert_good(("no plan", table), find_four(table))
        self.assert_good(("no plan", table), ("e", "f", "g", "h"))
        self.assert_bad(("no plan", table), ("e", "f", "g", "a"))


class OriginTest(CheckCase):
    def test_rows_of_plans_with_and_without_faults(self):
        drawn = random.Random(109)
        faults = 0
        for plan in SAMPLES:
            for _ in range(4):
                crowd = draw_crowd(drawn, lines_in(plan), 12)
                row = run_plan(plan, crowd)
                sources = source_lines(plan, crowd)
                self.assert_good(("possible", plan, row, sources), None)
                if row:
                    changed = list(sources)
                    changed[drawn.randrange(len(row))] = drawn.choice(lines_in(plan))
                    faults += self.assert_papers(plan, row, tuple(changed))
        self.assertGreater(faults, 40)

    def assert_papers(self, plan, row, sources):
        """Check all papers of a path and a person; return whether there is a fault."""
        people = list(zip(row, sources))
        paths = [path for path, _ in junctions_in(plan)]
        faults = {(path, height) for path, junction in junctions_in(plan) for height in breakers_at(junction, people)}
        for paper in itertools.product(paths + [(7,), (0, 0, 0)], row + (0, 1, 999)):
            self.assertIs(check(("impossible", plan, row, sources), paper), paper in faults)
        self.assertIs(check(("possible", plan, row, sources), None), not faults)
        if faults:
            self.assert_good(("impossible", plan, row, sources), find_fault(plan, row, sources))
        return bool(faults)

    def test_any_rows_and_sources_of_four_people(self):
        plan = ("low", (("high", ("a", "b")), "c"))
        for row in itertools.permutations(range(1, 5)):
            for sources in itertools.product("abc", repeat=4):
                self.assert_papers(plan, row, sources)

    def test_other_papers(self):
        self.assert_good(("impossible", PLAN, ROW, FAULT), ((), 1))
        for paper in [((), 6), ((1,), 1), ((0,), 1), ((2,), 1), ((-1,), 1), ((1, 0), 1), ([], 1), ((), True),
                      ((), "1"), ((), 7), ((),), ((), 1, 1), [(), 1], None, (), ((None,), 1), (None, 1), (0, 1),
                      ((False,), 1), (((),), 1)]:
            self.assert_bad(("impossible", PLAN, ROW, FAULT), paper)
        for paper in [True, False, 0, (), "", "None", ((), 1), (None,)]:
            self.assert_bad(("possible", PLAN, ROW, SOURCES), paper)
        self.assert_bad(("possible", PLAN, ROW, FAULT), None)
        self.assert_bad(("impossible", PLAN, ROW, SOURCES), None)

    def test_the_person_one_stands_for_no_true(self):
        claim = ("impossible", TWO, (2, 1), ("a", "b"))
        self.assert_good(claim, ((), 1))
        self.assert_bad(claim, ((), True))
        self.assert_bad(("impossible", TWO, (2, True), ("a", "b")), ((), 1))

    def test_claims_that_are_none(self):
        for row, sources in [(ROW, SOURCES[:5]), (ROW, SOURCES + ("a",)), (ROW, list(SOURCES)), (list(ROW), SOURCES),
                             (ROW[:5] + (4,), SOURCES), (ROW, SOURCES[:5] + ("d",)), (ROW, None), (None, SOURCES),
                             (ROW[:5] + (1000,), SOURCES), ((), None), (tuple(range(1, 42)), ("a",) * 41)]:
            self.assert_bad(("possible", PLAN, row, sources), None)
            for height in (1, 5):
                self.assert_bad(("impossible", PLAN, row, sources), ((), height))


class OrderTest(CheckCase):
    def test_all_orders(self):
        for records in [(RECORD,), (OTHER,), (RECORD, OTHER), (BROKEN,), (RECORD, BROKEN), (OTHER,) * 12]:
            for plan in [TWO, ("high", ("a", "b")), ("high", (("low", ("a", "c")), "b"))]:
                for order in itertools.permutations(("ann", "bob", "cy")):
                    heights = {name: place for place, name in enumerate(order, 1)}
                    explained = all([
                        result_of(plan, {line: tuple([heights[name] for name in names]) for line, names in waiting})
                        == tuple([heights[name] for name in result]) for waiting, result in records
                    ])
                    self.assertIs(check(("order", plan, records), order), explained)
                    self.assert_bad(("no order", plan, records), order)

    def test_orders_that_are_none(self):
        claim = ("order", TWO, (RECORD,))
        for paper in [("ann", "cy"), ("ann", "cy", "bob", "bob"), ("ann", "cy", "bob", "dora"), ("ann", "cy", "cy"),
                      ("ann", "cy", "dora"), ["ann", "cy", "bob"], ("ann", "cy", None), (), None,
                      ("ann", "cy", ("bob",)), ("ann", "cy", "Bob"), "ann"]:
            self.assert_bad(claim, paper)

    def test_records_with_a_broken_line(self):
        for records in [(BROKEN,), (RECORD, BROKEN), (RECORD, OTHER, BROKEN, BROKEN)]:
            claim = ("no order", TWO, records)
            for index in range(-5, 6):
                broken = 0 <= index < len(records) and records[index] == BROKEN
                self.assertIs(check(claim, ("line", index)), broken)
                self.assert_bad(claim, ("lines", index))
            for paper in [("line",), ("line", 0, 0), ["line", 0], ("line", True), ("line", None), ("line", "0")]:
                self.assert_bad(claim, paper)

    def test_cycles(self):
        claim = ("no order", TWO, (RECORD, OTHER))
        self.assertEqual(comparisons(TWO, RECORD), (("ann", "cy"), ("cy", "bob")))
        self.assertEqual(comparisons(TWO, OTHER), (("ann", "cy"), ("bob", "cy")))
        one, two = ("cy", "bob", 0), ("bob", "cy", 1)
        for steps in [(one, two), (two, one), (one, two) * 2, (one, two) * 100]:
            self.assert_good(claim, ("cycle", steps))
        for steps in [(), (one,), (two,), (one, one), (one, two, one), (two, ("ann", "cy", 0)), None, one,
                      (("cy", "bob", 1), two), (one, ("bob", "cy", 0)), (one, ("bob", "cy", 2)),
                      (one, ("bob", "cy", -1)), (one, ("bob", "cy", True)), (one, ("bob", "cy")),
                      (one, ("bob", "cy", 1, 1)), (one, ["bob", "cy", 1]), [one, two], (one, None),
                      (("ann", "cy", 0), one), (("ann", "ann", 0),), (one, ("bob", "cy", None))]:
            self.assert_bad(claim, ("cycle", steps))
        self.assert_bad(claim, (one, two))
        self.assert_bad(claim, ("cycle", one, two))
        self.assert_bad(claim, ("Cycle", (one, two)))

    def test_a_cycle_in_one_record_and_in_three(self):
        record = ((("a", ("x",)), ("b", ("y",)), ("c", ("z",))), ("y", "x", "z"))
        steps = (("x", "z", 0), ("z", "y", 0), ("y", "x", 0))
        self.assert_good(("no order", PLAN, (record,)), ("cycle", steps))
        self.assert_bad(("no order", PLAN, (record,)), ("cycle", steps[::-1]))
        self.assert_bad(("no order", PLAN, (record,)), ("cycle", steps[:2]))
        records = tuple([
            ((("a", (one,)), ("b", (other, third))), (one, other, third))
            for one, other, third in [("x", "y", "z"), ("y", "z", "x"), ("z", "x", "y")]
        ])
        steps = (("x", "y", 0), ("y", "z", 1), ("z", "x", 2))
        self.assert_good(("no order", TWO, records), ("cycle", steps))
        for place in range(3):
            self.assert_good(("no order", TWO, records), ("cycle", steps[place:] + steps[:place]))

    def test_a_record_with_a_broken_line_has_no_comparisons(self):
        claim = ("no order", TWO, (BROKEN, RECORD))
        self.assert_bad(claim, ("cycle", (("cy", "bob", 1), ("bob", "cy", 0))))
        self.assert_bad(claim, ("cycle", (("cy", "bob", 0), ("bob", "cy", 0))))
        self.assert_good(claim, ("line", 0))

    def test_claims_that_are_none(self):
        for records in [(), (RECORD,) * 13, [RECORD], RECORD, (RECORD, None), None,
                        (RECORD, ((("a", ("ann", "bob")),), ("ann", "bob"))), (BROKEN, (WAITING, ("bob", "ann"))),
                        ((WAITING + (("c", ()),), RECORD[1]),)]:
            self.assert_bad(("order", TWO, records), ("ann", "cy", "bob"))
            self.assert_bad(("no order", TWO, records), ("line", 0))
            self.assert_bad(("no order", TWO, records), ("cycle", (("cy", "bob", 0), ("bob", "cy", 1))))


class KindsTest(CheckCase):
    def test_all_plans_of_the_shape(self):
        drawn = random.Random(113)
        for plan in [plan for plan in SAMPLES if len(junctions_in(plan)) < 5]:
            crowd = draw_crowd(drawn, lines_in(plan), 12)
            runs = ((crowd, run_plan(drawn.choice(shapes_of(plan)), crowd)),)
            for shape in shapes_of(plan):
                explained = result_of(shape, dict(crowd)) == runs[0][1]
                self.assertIs(check(("kinds", plan, runs), shape), explained)
                self.assert_bad(("no kinds", plan, runs), shape)
            self.assert_good(("kinds", plan, runs), find_kinds(plan, runs))

    def test_plans_of_another_shape(self):
        plan = ("low", ("a", ("low", ("b", "c"))))
        runs = ((((("a", (1,))),), (1,)),)
        for shape in shapes_of(plan):
            self.assert_good(("kinds", plan, runs), shape)
        for other in [("low", ("a", "b", "c")), ("low", (("low", ("b", "c")), "a")), TWO, "a", None,
                      ("low", ("a", ("low", ("c", "b")))), ("low", ("a", ("low", ("b", "c", "d")))),
                      ("low", ("b", ("low", ("a", "c")))), ("low", ("a", ("low", ("b", "d")))),
                      ["low", ("a", ("low", ("b", "c")))], ("low", ("a", "b"))]:
            self.assert_bad(("kinds", plan, runs), other)

    def test_every_run_counts(self):
        for runs in [RUNS, RUNS[::-1], RUNS[:1] * 11 + RUNS[1:]]:
            for plan in shapes_of(TWO):
                self.assert_bad(("kinds", TWO, runs), plan)

    def test_runs_with_a_broken_line(self):
        broken = ((("a", (1, 2)),), (2, 1))
        good = (PAIR, (1, 2))
        for runs in [(broken,), (good, broken), (good, broken, broken, good)]:
            claim = ("no kinds", TWO, runs)
            for index in range(-5, 6):
                is_broken = 0 <= index < len(runs) and runs[index] == broken
                self.assertIs(check(claim, ("line", index)), is_broken)
            for paper in [("line",), ("line", 0, 0), ["line", 0], ("line", True), ("line", None), ("Line", 0)]:
                self.assert_bad(claim, paper)

    def test_junctions_that_no_kind_fits(self):
        claim = ("no kinds", ("low", (TWO, "c")), RUNS)
        self.assert_good(claim, ("junction", (0,), 1, 0))
        for paper in [("junction", (0,), 0, 1), ("junction", (), 1, 0), ("junction", (0,), 1, 1),
                      ("junction", (0,), 0, 0), ("junction", (1,), 1, 0), ("junction", (2,), 1, 0),
                      ("junction", (0, 0), 1, 0), ("junction", (-2,), 1, 0), ("junction", [0], 1, 0),
                      ("junction", (0,), -1, 0), ("junction", (0,), 1, -2), ("junction", (0,), True, False),
                      ("junction", (0,), 2, 0), ("junction", (0,), 1), ("junction", (0,), 1, 0, 0),
                      ["junction", (0,), 1, 0], ("junction", (False,), 1, 0), ("junction", None, 1, 0),
                      ("junction", (0,), None, 0), ("junction", (0,), 1, None), ("junctions", (0,), 1, 0)]:
            self.assert_bad(claim, paper)

    def test_a_junction_that_no_kind_fits_in_one_run(self):
        crowd = (("a", (1, 3)), ("b", (2, 4)))
        claim = ("no kinds", TWO, ((PAIR, (1, 2)), (crowd, (1, 2, 4, 3))))
        self.assert_bad(claim, ("junction", (), 0, 1))
        self.assert_good(claim, ("junction", (), 1, 1))
        self.assert_good(claim, ("junction", (), 1, 0))

    def test_a_junction_fits_whatever_the_order_of_the_people_in_the_lines(self):
        crowd = (("a", (3, 1)), ("b", (2, 4)))
        claim = ("no kinds", TWO, ((crowd, (1, 2, 4, 3)),))
        self.assert_good(claim, ("line", 0))
        self.assert_good(claim, ("junction", (), 0, 0))
        claim = ("no kinds", TWO, ((crowd, (1, 2, 3, 4)),))
        self.assert_good(claim, ("line", 0))
        self.assert_bad(claim, ("junction", (), 0, 0))

    def test_claims_that_are_none(self):
        broken = ((("a", (1, 2)),), (2, 1))
        for runs in [(), (broken,) * 13, [broken], broken, (broken, None), None, (broken, (PAIR, (1, 3))),
                     (broken, (PAIR, (1,))), (broken, ((("c", ()),), ())), (broken, (PAIR[::-1], (1, 2)))]:
            self.assert_bad(("no kinds", TWO, runs), ("line", 0))
            self.assert_bad(("no kinds", TWO, runs), ("junction", (), 0, 0))
        for runs in [(), (RUNS[0],) * 13, [RUNS[0]], RUNS[0], (RUNS[0], None), None]:
            self.assert_bad(("kinds", TWO, runs), TWO)

    def test_eight_lines_and_forty_people(self):
        plan = left_comb(["low", "high"] * 3 + ["low"])
        people = tuple([17 * place % 41 for place in range(1, 41)])
        crowd = tuple([(line, people[5 * place:5 * place + 5]) for place, line in enumerate("abcdefgh")])
        row = run_plan(plan, crowd)
        self.assert_good(("kinds", plan, ((crowd, row),) * 12), plan)
        self.assert_good(("no kinds", plan, ((crowd, row[::-1]),)), ("line", 0))


if __name__ == "__main__":
    unittest.main()
