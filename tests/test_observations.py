import itertools
import random
import unittest

from frontmeets.errors import InvalidPlan, InvalidRecord, NoOrder, UnknownName
from frontmeets.observations import comparisons, count_orders, find_order, is_shorter
from tests.checks import Case
from tests.definitions import comparisons_of, lines_in, orders_of
from tests.samples import (
    NAMES, PLANS, Agreeing, draw_plans, draw_waiting, left_comb, no_plans, other_values, right_comb,
    run_record,
)

PLAN = ("low", ("a", "b"))
THREE = ("low", ("a", ("high", ("b", "c"))))
WAITING = (("a", ("ann", "bob")), ("b", ("cy",)))
RECORD = (WAITING, ("ann", "cy", "bob"))
OTHER = (WAITING, ("ann", "bob", "cy"))
DEEP = left_comb(["low", "high"] * 3 + ["low"])
SAMPLES = list(PLANS) + draw_plans(6)
FOUND = (find_order, count_orders)


def draw_records(chance, plan, names, count, share):
    """Return records that one order explains, but for some (one of so many) with any result."""
    order = tuple(chance.sample(names, len(names)))
    records = []
    for _ in range(count):
        record = run_record(plan, draw_waiting(chance, lines_in(plan), names), order)
        if chance.randrange(share) == 0:
            record = (record[0], tuple(chance.sample(names, len(names))))
        records.append(record)
    return tuple(records)


class ComparisonsTest(Case):
    def test_the_interface(self):
        self.assert_interface(comparisons, "frontmeets.observations", ["plan", "record"])

    def test_the_examples_of_the_document(self):
        self.assertEqual(comparisons(PLAN, RECORD), (("ann", "cy"), ("cy", "bob")))
        self.assertIsNone(comparisons(PLAN, ((("a", ("ann", "bob")),), ("bob", "ann"))))

    def test_a_high_junction(self):
        self.assertEqual(comparisons(("high", ("a", "b")), RECORD), (("bob", "cy"), ("cy", "ann")))

    def test_one_line(self):
        for record in [((("a", ("ann", "bob")),), ("ann", "bob")), ((("a", NAMES),), NAMES)]:
            for plan in ["a", PLAN, THREE]:
                self.assertEqual(comparisons(plan, record), ())
        self.assertIsNone(comparisons("a", ((("a", NAMES),), NAMES[:10] + ("lee", "kim"))))

    def test_people_are_compared_with_the_fronts_of_all_other_parts(self):
        plan = ("low", ("a", "b", "c", "d"))
        record = ((("a", ("x", "v")), ("b", ("y",)), ("c", ("z",)), ("d", ())), ("y", "x", "v", "z"))
        expected = (("v", "z"), ("x", "z"), ("y", "x"), ("y", "z"))
        self.assertEqual(comparisons(plan, record), expected)

    def test_people_are_compared_at_inner_junctions_in_the_order_of_the_result(self):
        record = ((("a", ("x",)), ("b", ("y",)), ("c", ("z",))), ("y", "x", "z"))
        # No heights are such that these people come in this order: each is shorter than another one.
        self.assertEqual(comparisons(THREE, record), (("x", "z"), ("y", "x"), ("z", "y")))
        self.assertEqual(comparisons(("low", (("high", ("a", "b")), "c")), record),
                         (("x", "y"), ("x", "z"), ("y", "z")))

    def test_a_line_whose_names_come_in_another_order(self):
        waiting = (("a", ("ann", "bob", "cy")), ("b", ("eve",)), ("c", ("hal", "ida")))
        for result in itertools.permutations(("ann", "bob", "cy", "eve", "hal", "ida")):
            found = comparisons(THREE, (waiting, result))
            ordered = (result.index("ann") < result.index("bob") < result.index("cy")
                       and result.index("hal") < result.index("ida"))
            self.assertIs(found is None, not ordered)

    def test_against_the_definition(self):
        chance = random.Random(47)
        for plan in SAMPLES:
            for count in (2, 3, 5, 8, 12):
                for record in draw_records(chance, plan, NAMES[:count], 3, 3):
                    with self.subTest(plan=plan, record=record):
                        expected = comparisons_of(plan, record)
                        self.assertEqual(comparisons(plan, record), expected)

    def test_deep_plans(self):
        waiting = tuple([(line, (name,)) for line, name in zip("abcdefgh", NAMES)])
        for plan in [DEEP, right_comb(["high", "low"] * 3 + ["high"])]:
            for order in [NAMES[:8], NAMES[7::-1], ("hal", "ann", "gil", "bob", "fay", "cy", "eve", "dora")]:
                record = run_record(plan, waiting, order)
                found = comparisons(plan, record)
                self.assertEqual(found, comparisons_of(plan, record))
                for one, other in found:
                    self.assertLess(order.index(one), order.index(other))

    def test_an_order_explains_a_record_as_its_comparisons_say(self):
        chance = random.Random(53)
        for plan in list(PLANS[4:12]) + draw_plans(4, range(2, 6)):
            for record in draw_records(chance, plan, NAMES[:4], 4, 2):
                pairs = comparisons(plan, record)
                orders = [
                    order for order in itertools.permutations(NAMES[:4])
                    if pairs is not None and all([order.index(one) < order.index(two) for one, two in pairs])
                ]
                self.assertEqual(orders, orders_of(plan, (record,)))

    def test_by_position_and_by_name(self):
        names = ["plan", "record"]
        self.assert_calls(comparisons, names, (PLAN, RECORD), (("ann", "cy"), ("cy", "bob")))
        self.assert_calls(comparisons, names, (PLAN, ((("a", ("x", "y")),), ("y", "x"))), None)


class OrdersTest(Case):
    def assert_orders(self, plan, records):
        orders = orders_of(plan, records)
        self.assertEqual(find_order(plan, records), orders[0] if orders else None)
        self.assertEqual(count_orders(plan, records), len(orders))
        names = sorted(records[0][1])
        for one, other in itertools.product(names, repeat=2):
            if orders:
                found = is_shorter(plan, records, one, other)
                always = all([order.index(one) < order.index(other) for order in orders])
                self.assertIs(found, always)
            else:
                self.assert_error(NoOrder, {}, is_shorter, plan, records, one, other)
        return len(orders)

    def test_the_interface(self):
        for function in FOUND:
            self.assert_interface(function, "frontmeets.observations", ["plan", "records"])
        self.assert_interface(is_shorter, "frontmeets.observations", ["plan", "records", "one", "other"])

    def test_the_examples_of_the_document(self):
        self.assertEqual(find_order(PLAN, (RECORD,)), ("ann", "cy", "bob"))
        self.assertIsNone(find_order(PLAN, (RECORD, OTHER)))
        self.assertEqual([count_orders(PLAN, (RECORD,)), count_orders(PLAN, (OTHER,))], [1, 2])
        self.assertIs(is_shorter(PLAN, (RECORD,), "ann", "bob"), True)
        self.assertIs(is_shorter(PLAN, (RECORD,), "bob", "cy"), False)

    def test_all_results_of_four_names(self):
        waiting = (("a", ("ann", "bob")), ("b", ("cy",)), ("c", ("dora",)))
        for plan in [THREE, ("high", (("low", ("a", "b")), "c"))]:
            for result in itertools.permutations(NAMES[:4]):
                self.assert_orders(plan, ((waiting, result),))

    def test_against_all_orders(self):
        chance = random.Random(59)
        found = []
        for plan in SAMPLES:
            for count in (2, 3, 4, 5):
                records = draw_records(chance, plan, NAMES[:count], chance.randint(1, 4), 6)
                with self.subTest(plan=plan, records=records):
                    found.append(self.assert_orders(plan, records))
        self.assertGreater(found.count(0), 20)
        self.assertGreater(found.count(1), 20)
        self.assertGreater(len([count for count in found if count > 1]), 40)

    def test_one_to_twelve_records(self):
        chance = random.Random(61)
        for count in range(1, 13):
            records = draw_records(chance, DEEP, NAMES[:5], count, 100)
            self.assert_orders(DEEP, records)
            self.assert_orders(DEEP, (records[0],) * count)

    def test_the_names_may_wait_in_other_lines_in_each_record(self):
        first = ((("a", ("x",)), ("b", ("y",)), ("c", ("z",))), ("x", "z", "y"))
        second = ((("a", ("z", "y")), ("c", ("x",))), ("x", "z", "y"))
        self.assertGreater(self.assert_orders(THREE, (first, second)), 0)
        self.assertEqual(self.assert_orders(THREE, (second, (second[0], ("z", "x", "y")))), 0)

    def test_comparisons_in_a_circle(self):
        records = (RECORD, OTHER, (WAITING, ("cy", "ann", "bob")))
        for chosen in itertools.permutations(records, 2):
            self.assertEqual(self.assert_orders(PLAN, chosen), 0)
        # In one record alone: x before z, z before y and y before x.
        record = ((("a", ("x",)), ("b", ("y",)), ("c", ("z",))), ("y", "x", "z"))
        self.assertEqual(self.assert_orders(THREE, (record,)), 0)

    def test_a_line_whose_names_come_in_another_order(self):
        wrong = (WAITING, ("bob", "ann", "cy"))
        for records in [(wrong,), (wrong, RECORD), (RECORD, wrong), (RECORD, RECORD, wrong, RECORD)]:
            self.assertEqual(self.assert_orders(PLAN, records), 0)

    def test_twelve_names_of_which_nobody_is_compared(self):
        record = ((("a", NAMES),), NAMES)
        for plan in ["a", PLAN, DEEP]:
            self.assertEqual(count_orders(plan, (record,)), 479001600)
            self.assertEqual(find_order(plan, (record,)), NAMES)
            self.assertIs(is_shorter(plan, (record,), "ann", "lee"), False)
            self.assertIs(is_shorter(plan, (record,) * 12, "lee", "ann"), False)

    def test_twelve_names_of_which_few_are_compared(self):
        waiting = (("a", ("lee",) + NAMES[:10]), ("b", ("kim",)))
        records = ((waiting, ("lee",) + NAMES[:10] + ("kim",)),)
        # Everybody in the line a is shorter than kim.
        self.assertEqual(count_orders(PLAN, records), 39916800)
        self.assertEqual(find_order(PLAN, records), NAMES[:10] + ("lee", "kim"))
        self.assertIs(is_shorter(PLAN, records, "ann", "kim"), True)
        self.assertIs(is_shorter(PLAN, records, "ann", "lee"), False)
        records = ((waiting, ("kim", "lee") + NAMES[:10]),)
        self.assertEqual(count_orders(PLAN, records), 479001600 // 2)
        self.assertEqual(find_order(PLAN, records), NAMES[:11] + ("lee",))
        self.assertEqual(count_orders(("high", ("a", "b")), records), 479001600 // 2)
        self.assertEqual(find_order(("high", ("a", "b")), records), NAMES[:10] + ("lee", "kim"))

    def test_twelve_names_of_which_all_are_compared(self):
        chance = random.Random(67)
        plan = ("low", tuple("abcdefgh"))
        order = tuple(chance.sample(NAMES, 12))
        records = []
        for place in range(5):
            first = order[2 * place:2 * place + 4]
            others = tuple([name for name in order if name not in first])
            waiting = tuple(zip("abcd", [(name,) for name in first[:3]] + [first[3:] + others]))
            records.append(run_record(plan, waiting, order))
        records = tuple(records)
        self.assertEqual(count_orders(plan, records), 1)
        self.assertEqual(find_order(plan, records), order)
        for one, other in itertools.product(NAMES, repeat=2):
            self.assertIs(is_shorter(plan, records, one, other), order.index(one) < order.index(other))

    def test_two_names(self):
        for result, order in [(("x", "y"), ("x", "y")), (("y", "x"), ("y", "x"))]:
            record = ((("a", ("x",)), ("b", ("y",))), result)
            self.assertEqual(find_order(PLAN, (record,)), order)
            self.assertEqual(find_order(("high", ("a", "b")), (record,)), order[::-1])

    def test_both_the_same_name(self):
        for name in ("ann", "bob", "cy"):
            self.assertIs(is_shorter(PLAN, (RECORD,), name, name), False)
            self.assertIs(is_shorter(PLAN, (OTHER,), name, name), False)

    def test_names_that_follow_from_several_comparisons(self):
        # No record compares ann with cy.
        first = ((("a", ("ann", "cy")), ("b", ("bob",))), ("ann", "bob", "cy"))
        self.assertIs(is_shorter(PLAN, (first,), "ann", "cy"), True)
        self.assertIs(is_shorter(PLAN, (first,), "cy", "ann"), False)

    def test_by_position_and_by_name(self):
        names = ["plan", "records", "one", "other"]
        self.assert_calls(find_order, names[:2], (PLAN, (RECORD,)), ("ann", "cy", "bob"))
        self.assert_calls(find_order, names[:2], (PLAN, (RECORD, OTHER)), None)
        self.assert_calls(count_orders, names[:2], (PLAN, (OTHER,)), 2)
        self.assert_calls(count_orders, names[:2], (PLAN, (OTHER, RECORD)), 0)
        self.assert_calls(is_shorter, names, (PLAN, (RECORD,), "ann", "bob"), True)
        self.assert_calls(is_shorter, names, (PLAN, (RECORD,), "bob", "cy"), False)


def wrong_records():
    """Return values, made anew, of which none is a record of the names x and y for PLAN."""
    waiting = (("a", ("x",)), ("b", ("y",)))
    result = ("x", "y")
    many = tuple(["n" + letter for letter in "abcdefghijklm"])
    return other_values() + [
        waiting, result, (waiting,), (waiting, result, ()), [waiting, result], (list(waiting), result),
        (waiting, list(result)), (dict(waiting), result), (waiting, "xy"), (waiting, None), (None, result),
        (waiting, ("x",)), (waiting, ("x", "y", "z")), (waiting, ("x", "z")), (waiting, ("x", "x")),
        (waiting, ("x", "y", "y")), (waiting, ("x", "Y")), (waiting, ("x", None)), (waiting, (1, 2)),
        ((("a", ("x",)), ("b", ("x",))), ("x", "x")), ((("a", ("x", "x")), ("b", ("y",))), result),
        ((("a", ("x", "x")), ("b", ("y",))), ("x", "x", "y")), ((("a", ("x",)),), ("x",)), ((), ()),
        ((("a", ()), ("b", ())), ()), ((("a", many),), many), (waiting[::-1], result),
        ((("a", ("x",)), ("a", ("y",))), result), ((("a", ("x",)), ("A", ("y",))), result),
        ((("a", ("x",)), ["b", ("y",)]), result), ((("a", ("x",)), ("b", ["y"])), result),
        ((("a", ("x",)), ("b", "y")), result), ((("a", ("x",)), ("b",)), result),
        ((("a", ("x",)), ("b", ("y",), ())), result), ((("a", ("x",)), ("", ("y",))), result),
        ((("a", ("x",)), (None, ("y",))), result), ((("a", ("x",)), None), result),
        ((("a", ("x",)), ("b", ("Y",))), ("x", "Y")), ((("a", ("x",)), ("b", ("",))), ("x", "")),
        ((("a", ("x",)), ("b", ("abcdefg",))), ("x", "abcdefg")), ((("a", ("x",)), ("b", (7,))), ("x", 7)),
        ((("a", ("x",)), ("b", ((),))), ("x", ())), ((("a", ("x",)), ("b", (True,))), ("x", True)),
        ((("a", ("x",)), ("b", (Agreeing(),))), ("x", "y")), (waiting, ("x", Agreeing())),
        (Agreeing(), result), (waiting, Agreeing()), ((("a", ("x",)), (Agreeing(), ("y",))), result),
        ((("a", ("x",)), ("c", ("y",))), result), ((("a", ("x", "y")), ("b", ()), ("c", ())), result),
        ((("a", ("x",)), ("aa", ()), ("b", ("y",))), result),
        ((("a", ("x",)), ("b", ("y",)), Agreeing()), result), (waiting + (("low", ()),), result),
    ]


class WrongRecordsTest(Case):
    def assert_records(self, records, index, plan=PLAN):
        for function in FOUND:
            self.assert_error(InvalidRecord, {"index": index}, function, plan, records)
        for pair in [("x", "y"), (None, 7), ("x", "x")]:
            self.assert_error(InvalidRecord, {"index": index}, is_shorter, plan, records, *pair)

    def test_values_that_are_no_records(self):
        good = ((("a", ("x",)), ("b", ("y",))), ("x", "y"))
        self.assertEqual(comparisons(PLAN, good), (("x", "y"),))
        for wrong in wrong_records():
            with self.subTest(wrong=wrong):
                self.assert_error(InvalidRecord, {"index": None}, comparisons, PLAN, wrong)
                self.assert_records((wrong,), 0)
                self.assert_records((wrong, wrong, good), 0)
                self.assert_records((good, good, wrong, None), 2)

    def test_records_of_two_to_twelve_names(self):
        for count in range(2, 13):
            record = ((("a", NAMES[:count - 1]), ("b", NAMES[count - 1:count])), NAMES[:count])
            self.assertEqual(len(comparisons(PLAN, record)), count - 1)

    def test_no_tuple_no_records_and_too_many(self):
        for value in other_values() + [[RECORD], RECORD, (), (RECORD,) * 13, (None,) * 13, {RECORD: 1}]:
            if not isinstance(value, tuple) or len(value) in (0, 13):
                with self.subTest(value=value):
                    self.assert_records(value, None)
        self.assertEqual(find_order(PLAN, (RECORD,) * 12), ("ann", "cy", "bob"))

    def test_a_record_alone_is_no_tuple_of_records(self):
        self.assert_records(RECORD, 0)

    def test_records_with_other_names(self):
        others = [
            ((("a", ("ann", "bob")), ("b", ("dora",))), ("ann", "dora", "bob")),
            ((("a", ("ann", "bob")), ("b", ())), ("ann", "bob")),
            ((("a", ("ann", "bob")), ("b", ("cy", "dora"))), ("ann", "cy", "bob", "dora")),
        ]
        for other in others:
            self.assertIsNotNone(comparisons(PLAN, other))
            self.assert_records((RECORD, other), 1)
            self.assert_records((other, RECORD), 1)
            self.assert_records((RECORD, OTHER, RECORD, other, None), 3)

    def test_lines_of_another_plan(self):
        self.assert_records((RECORD,), 0, plan="a")
        self.assert_records((RECORD, OTHER), 0, plan=("low", ("a", "c")))
        self.assert_error(InvalidRecord, {"index": None}, comparisons, ("low", ("a", "c")), RECORD)
        nine = tuple([(line, (name,)) for line, name in zip("abcdefghi", NAMES)])
        self.assert_records(((nine, NAMES[:9]),), 0, plan=DEEP)
        self.assert_error(InvalidRecord, {"index": None}, comparisons, DEEP, (nine, NAMES[:9]))

    def test_invalid_plans_come_first(self):
        for value in no_plans():
            for records in [(RECORD,), (), None, (None,)]:
                self.assert_error(InvalidPlan, {"value": value}, comparisons, value, records)
                for function in FOUND:
                    self.assert_error(InvalidPlan, {"value": value}, function, value, records)
                self.assert_error(InvalidPlan, {"value": value}, is_shorter, value, records, None, 7)

    def test_names_that_the_records_do_not_have(self):
        for wrong in other_values() + ["dora", "a", "b", "an", "annn", ("ann",), ["ann"], Agreeing(), RECORD]:
            with self.subTest(wrong=wrong):
                for records in [(RECORD,), (RECORD, OTHER)]:
                    self.assert_error(UnknownName, {"name": wrong}, is_shorter, PLAN, records, wrong, "cy")
                    self.assert_error(UnknownName, {"name": wrong}, is_shorter, PLAN, records, "cy", wrong)
                    self.assert_error(UnknownName, {"name": wrong}, is_shorter, PLAN, records, wrong, "zoe")
                    self.assert_error(UnknownName, {"name": wrong}, is_shorter, PLAN, records, wrong, wrong)

    def test_no_order_comes_last(self):
        for pair in [("ann", "cy"), ("cy", "ann"), ("bob", "bob")]:
            self.assert_error(NoOrder, {}, is_shorter, PLAN, (RECORD, OTHER), *pair)
            self.assert_error(NoOrder, {}, is_shorter, PLAN, ((WAITING, ("bob", "ann", "cy")),), *pair)


if __name__ == "__main__":
    unittest.main()
