import copy
import inspect
import itertools
import unittest

from frontmeets import rows
from frontmeets.errors import InvalidKind, InvalidRow
from frontmeets.rows import is_row, split_trains
from tests.samples import other_values

KINDS = ("low", "high")
FORTY = tuple([17 * place % 41 for place in range(1, 41)])


def trains_by_definition(row, kind):
    """Return the trains as the document defines them, one person after another."""
    trains = []
    for place, height in enumerate(row):
        before = row[:place]
        if kind == "low":
            is_head = all(height > earlier for earlier in before)
        else:
            is_head = all(height < earlier for earlier in before)
        if is_head:
            trains.append([])
        trains[-1].append(height)
    return tuple([tuple(train) for train in trains])


class IsRowTest(unittest.TestCase):
    def test_the_example_of_the_document(self):
        self.assertEqual(
            [is_row((170, 180)), is_row(()), is_row([170]), is_row((170, 170))],
            [True, True, False, False],
        )

    def test_rows(self):
        for row in [(), (1,), (999,), (2, 1), (1, 999, 998, 2), FORTY, tuple(range(960, 1000))]:
            with self.subTest(row=row):
                self.assertIs(is_row(row), True)

    def test_each_height_and_its_limits(self):
        for height in range(1, 1000):
            self.assertIs(is_row((height,)), True)
        for number in (0, -1, -999, 1000, 1001, 10 ** 59, -(10 ** 59)):
            with self.subTest(number=number):
                self.assertIs(is_row((number,)), False)
                self.assertIs(is_row((5, number)), False)
                self.assertIs(is_row((number, 5)), False)

    def test_the_number_of_people(self):
        for count in range(41):
            self.assertIs(is_row(tuple(range(1, count + 1))), True)
        for count in (41, 42, 100, 999):
            self.assertIs(is_row(tuple(range(1, count + 1))), False)

    def test_a_height_twice(self):
        for row in [(5, 5), (5, 6, 5), (6, 5, 5), FORTY[:-1] + FORTY[:1], (300, 1, 300)]:
            with self.subTest(row=row):
                self.assertIs(is_row(row), False)

    def test_booleans_are_no_heights(self):
        for row in [(True,), (False,), (2, True), (True, 2), (1, True), (4, 3, True, 2)]:
            with self.subTest(row=row):
                self.assertIs(is_row(row), False)

    def test_other_values(self):
        for value in other_values():
            with self.subTest(value=value):
                self.assertIs(is_row(value), False)

    def test_tuples_with_other_elements(self):
        elements = other_values() + ["1", b"1", (1,), [1], (), {1: 1}]
        for element in elements:
            with self.subTest(element=element):
                self.assertIs(is_row((element,)), False)
                self.assertIs(is_row((5, element)), False)
                self.assertIs(is_row((element, 5, element)), False)

    def test_lists_and_other_values_with_the_same_elements(self):
        for value in [[], [170, 180], list(FORTY), {1, 2}, {1: 2}, "12", b"12", range(1, 4), 5]:
            with self.subTest(value=value):
                self.assertIs(is_row(value), False)

    def test_by_name(self):
        self.assertIs(is_row(value=(2, 1)), True)
        self.assertIs(is_row(value=[2, 1]), False)
        self.assertEqual(list(inspect.signature(is_row).parameters), ["value"])

    def test_the_value_stays_as_it_was(self):
        values = [[3, 1, 2], [[2], [1]], ([3, 1], {1: [2]}), {1: 2, 3: [4]}, {3, 1}, (3, 1, 2)]
        for value in values:
            with self.subTest(value=value):
                before = copy.deepcopy(value)
                self.assertEqual(is_row(value), is_row(value))
                self.assertEqual(value, before)


class SplitTrainsTest(unittest.TestCase):
    def assert_trains(self, row, kind, trains):
        result = split_trains(row, kind)
        self.assertEqual(result, trains)
        self.assertIs(type(result), tuple)
        for train in result:
            self.assertIs(type(train), tuple)
            for height in train:
                self.assertIs(type(height), int)
        self.assertEqual(split_trains(row, kind), result)

    def test_the_examples_of_the_document(self):
        row = (4, 3, 2, 5, 1, 6)
        self.assert_trains(row, "low", ((4, 3, 2), (5, 1), (6,)))
        self.assert_trains(row, "high", ((4,), (3,), (2, 5), (1, 6)))

    def test_few_people(self):
        for kind in KINDS:
            with self.subTest(kind=kind):
                self.assert_trains((), kind, ())
                self.assert_trains((1,), kind, ((1,),))
                self.assert_trains((999,), kind, ((999,),))
        self.assert_trains((1, 999), "low", ((1,), (999,)))
        self.assert_trains((1, 999), "high", ((1, 999),))
        self.assert_trains((999, 1), "low", ((999, 1),))
        self.assert_trains((999, 1), "high", ((999,), (1,)))

    def test_ascending_and_descending_rows(self):
        for count in (2, 3, 12, 39, 40):
            ascending = tuple(range(9, 9 + count))
            descending = ascending[::-1]
            with self.subTest(count=count):
                self.assert_trains(ascending, "low", tuple([(height,) for height in ascending]))
                self.assert_trains(ascending, "high", (ascending,))
                self.assert_trains(descending, "low", (descending,))
                self.assert_trains(descending, "high", tuple([(height,) for height in descending]))

    def test_heights_are_compared_as_numbers(self):
        self.assert_trains((9, 10, 100, 99), "low", ((9,), (10,), (100, 99)))
        self.assert_trains((100, 99, 10, 9), "high", ((100,), (99,), (10,), (9,)))

    def test_a_head_is_compared_with_all_people_before(self):
        self.assert_trains((5, 1, 3, 4, 6), "low", ((5, 1, 3, 4), (6,)))
        self.assert_trains((5, 9, 7, 6, 4), "high", ((5, 9, 7, 6), (4,)))

    def test_all_short_rows_against_the_definition(self):
        for count in range(7):
            for row in itertools.permutations(range(1, count + 1)):
                for kind in KINDS:
                    self.assertEqual(split_trains(row, kind), trains_by_definition(row, kind))

    def test_forty_people_against_the_definition(self):
        for factor in range(1, 41):
            row = tuple([factor * place % 41 * 24 for place in range(1, 41)])
            for kind in KINDS:
                with self.subTest(factor=factor, kind=kind):
                    self.assert_trains(row, kind, trains_by_definition(row, kind))

    def test_by_position_and_by_name(self):
        row = (4, 3, 2, 5, 1, 6)
        low = ((4, 3, 2), (5, 1), (6,))
        self.assertEqual(split_trains(row=row, kind="low"), low)
        self.assertEqual(split_trains(kind="low", row=row), low)
        self.assertEqual(split_trains(row, kind="low"), low)
        self.assertEqual(list(inspect.signature(split_trains).parameters), ["row", "kind"])

    def test_the_functions_are_defined_in_the_module(self):
        self.assertEqual(rows.split_trains.__module__, "frontmeets.rows")
        self.assertEqual(rows.is_row.__module__, "frontmeets.rows")


class SplitTrainsWrongInputTest(unittest.TestCase):
    def assert_invalid_row(self, row, index, kind="low"):
        with self.assertRaises(InvalidRow) as held:
            split_trains(row, kind)
        self.assertEqual(held.exception.index, index)
        self.assertIs(type(held.exception.index), type(index))

    def assert_invalid_kind(self, row, kind):
        with self.assertRaises(InvalidKind) as held:
            split_trains(row, kind)
        self.assertIs(held.exception.kind, kind)

    def test_the_example_of_the_document(self):
        self.assert_invalid_row((4, True), 1, "Low")

    def test_no_tuple(self):
        for row in other_values() + [[4, 3], list(FORTY), "", "12", 5, range(1, 4), {4: 3}]:
            if not isinstance(row, tuple):
                with self.subTest(row=row):
                    self.assert_invalid_row(row, None)

    def test_more_than_forty_elements(self):
        for row in [tuple(range(1, 42)), tuple(range(1, 101)), tuple(range(900, 1000))]:
            with self.subTest(count=len(row)):
                self.assert_invalid_row(row, None)

    def test_more_than_forty_elements_of_which_one_is_wrong(self):
        many = tuple(range(1, 41))
        for element in [0, 1, 40, True, None, "a", [1]]:
            with self.subTest(element=element):
                self.assert_invalid_row(many + (element,), None)
                self.assert_invalid_row((element,) + many, None)
        self.assert_invalid_row((0,) * 41, None)

    def test_an_element_that_is_no_height(self):
        for element in other_values() + [0, "5", (5,), [5], ()]:
            with self.subTest(element=element):
                self.assert_invalid_row((element,), 0)
                self.assert_invalid_row((7, element), 1)
                self.assert_invalid_row((element, 7), 0)
                self.assert_invalid_row((7, 8, element, 9), 2)
                self.assert_invalid_row(FORTY[:39] + (element,), 39)

    def test_a_height_that_occurs_earlier(self):
        self.assert_invalid_row((5, 5), 1)
        self.assert_invalid_row((5, 6, 5), 2)
        self.assert_invalid_row((6, 5, 5, 6), 2)
        self.assert_invalid_row((999, 1, 2, 999, 1), 3)
        self.assert_invalid_row(FORTY[:39] + FORTY[:1], 39)
        self.assert_invalid_row(FORTY[:39] + FORTY[38:39], 39)

    def test_the_first_wrong_element_counts(self):
        self.assert_invalid_row((5, 5, 0), 1)
        self.assert_invalid_row((5, 0, 5), 1)
        self.assert_invalid_row((5, 6, 1000, True, 5), 2)
        self.assert_invalid_row((5, 6, 6, 5), 2)
        self.assert_invalid_row((0, 0), 0)
        self.assert_invalid_row((1, True), 1)
        self.assert_invalid_row((True, 1), 0)

    def test_other_kinds(self):
        kinds = ["", "Low", "LOW", "High", "HIGH", "low ", " low", "lo", "hig", "lowhigh", "l",
                 "highlow", "middle", "low\n", ("low", "high"), ["high"], {"high"}, {"high": 1}]
        for kind in kinds + other_values():
            with self.subTest(kind=kind):
                self.assert_invalid_kind((4, 3, 5), kind)
                self.assert_invalid_kind((), kind)
                self.assert_invalid_kind((7,), kind)

    def test_numbers_and_rows_as_kinds(self):
        for kind in [0, 1, 2, (), (4, 3, 5)]:
            with self.subTest(kind=kind):
                self.assert_invalid_kind((4, 3, 5), kind)

    def test_the_row_is_checked_before_the_kind(self):
        for kind in other_values():
            with self.subTest(kind=kind):
                self.assert_invalid_row([4, 3], None, kind)
                self.assert_invalid_row(tuple(range(1, 42)), None, kind)
                self.assert_invalid_row((4, 4), 1, kind)
                self.assert_invalid_row((0,), 0, kind)

    def test_wrong_inputs_by_name(self):
        with self.assertRaises(InvalidRow) as held:
            split_trains(kind="Low", row=(4, 0))
        self.assertEqual(held.exception.index, 1)
        with self.assertRaises(InvalidKind) as held:
            split_trains(kind="Low", row=(4,))
        self.assertEqual(held.exception.kind, "Low")

    def test_wrong_values_stay_as_they_were(self):
        row = [3, 1, [2]]
        self.assert_invalid_row(row, None)
        self.assertEqual(row, [3, 1, [2]])
        kind = {"low": ["high"]}
        self.assert_invalid_kind((3, 1), kind)
        self.assertEqual(kind, {"low": ["high"]})


if __name__ == "__main__":
    unittest.main()
