import itertools
import unittest

from frontmeets.errors import InvalidKind, InvalidNumber, InvalidRow, InvalidRows
from frontmeets.meeting import meet
from frontmeets.rows import split_trains
from frontmeets.splits import count_splits, split_at, split_number
from tests.checks import Case
from tests.samples import other_values

KINDS = ("low", "high")
ROW = (4, 3, 2, 5, 1, 6)
FORTY = tuple([17 * place % 41 for place in range(1, 41)])
RISING = tuple(range(101, 141))
FALLING = RISING[::-1]


def short_rows(most):
    """Return all rows of the heights 1, 2 .. up to so many people."""
    return [row for count in range(most + 1) for row in itertools.permutations(range(1, count + 1))]


def splits_by_definition(row, kind):
    """Return all pairs of rows whose result is the row, by trying each way to divide the people."""
    found = []
    for choice in itertools.product((0, 1), repeat=len(row)):
        rows = tuple([
            tuple([height for height, side in zip(row, choice) if side == wanted])
            for wanted in (0, 1)
        ])
        if meet(rows, kind) == row:
            found.append(rows)
    return found


class SplitsTest(Case):
    def test_the_interface(self):
        self.assert_interface(count_splits, "frontmeets.splits", ["row", "kind"])
        self.assert_interface(split_at, "frontmeets.splits", ["row", "kind", "number"])
        self.assert_interface(split_number, "frontmeets.splits", ["rows", "kind"])

    def test_the_examples_of_the_document(self):
        self.assertEqual(
            [count_splits(ROW, "low"), count_splits(ROW, "high"), count_splits((), "low")],
            [8, 16, 1],
        )
        self.assertEqual(split_at(ROW, "low", 5), ((5, 1), (4, 3, 2, 6)))
        self.assert_error(InvalidNumber, {"number": 8}, split_at, ROW, "low", 8)
        self.assertEqual(split_number(((5, 1), (4, 3, 2, 6)), "low"), 5)

    def test_few_people(self):
        for kind in KINDS:
            self.assertEqual(count_splits((), kind), 1)
            self.assertEqual(split_at((), kind, 0), ((), ()))
            self.assertEqual(split_number(((), ()), kind), 0)
            self.assertEqual(count_splits((7,), kind), 2)
            self.assertEqual(split_at((7,), kind, 0), ((7,), ()))
            self.assertEqual(split_at((7,), kind, 1), ((), (7,)))
            self.assertEqual(split_number(((7,), ()), kind), 0)
            self.assertEqual(split_number(((), (7,)), kind), 1)

    def test_forty_people(self):
        for row, kind in [(RISING, "low"), (FALLING, "high")]:
            self.assertEqual(count_splits(row, kind), 2 ** 40)
            self.assertEqual(split_at(row, kind, 0), (row, ()))
            self.assertEqual(split_at(row, kind, 2 ** 40 - 1), ((), row))
            self.assertEqual(split_at(row, kind, 2 ** 39), (row[:39], row[39:]))
            self.assertEqual(split_number(((), row), kind), 2 ** 40 - 1)
            odd = sum([2 ** place for place in range(1, 40, 2)])
            self.assertEqual(split_at(row, kind, odd), (row[::2], row[1::2]))
            self.assertEqual(split_number((row[::2], row[1::2]), kind), odd)
        for row, kind in [(RISING, "high"), (FALLING, "low")]:
            self.assertEqual(count_splits(row, kind), 2)
            self.assertEqual(split_at(row, kind, 0), (row, ()))
            self.assertEqual(split_at(row, kind, 1), ((), row))
            self.assertEqual(split_number(((), row), kind), 1)

    def test_each_number_as_the_document_says(self):
        for row in short_rows(5):
            for kind in KINDS:
                trains = split_trains(row, kind)
                for number in range(2 ** len(trains)):
                    sides = ((), ())
                    for place, train in enumerate(trains):
                        odd = number // 2 ** place % 2 == 1
                        sides = (sides[0], sides[1] + train) if odd else (sides[0] + train, sides[1])
                    self.assertEqual(split_at(row, kind, number), sides)

    def test_there_are_no_other_splits(self):
        for row in short_rows(5):
            for kind in KINDS:
                count = count_splits(row, kind)
                found = [split_at(row, kind, number) for number in range(count)]
                self.assertEqual(len(set(found)), count)
                self.assertEqual(sorted(found), sorted(splits_by_definition(row, kind)))

    def test_a_split_meets_to_the_row_and_has_its_number(self):
        for row in short_rows(5) + [ROW, FORTY, RISING, FALLING]:
            for kind in KINDS:
                count = count_splits(row, kind)
                numbers = range(count) if count <= 64 else [0, 1, 2, 77, count // 3, count - 1]
                for number in numbers:
                    rows = split_at(row, kind, number)
                    self.assertEqual(meet(rows, kind), row)
                    self.assertEqual(split_number(rows, kind), number)

    def test_the_split_of_any_two_rows(self):
        for people in itertools.permutations(range(1, 6)):
            for cut in range(6):
                rows = (people[:cut], people[cut:])
                for kind in KINDS:
                    number = split_number(rows, kind)
                    self.assertEqual(split_at(meet(rows, kind), kind, number), rows)

    def test_by_position_and_by_name(self):
        rows = ((5, 1), (4, 3, 2, 6))
        self.assert_calls(count_splits, ["row", "kind"], (ROW, "high"), 16)
        self.assert_calls(split_at, ["row", "kind", "number"], (ROW, "low", 5), rows)
        self.assert_calls(split_number, ["rows", "kind"], (rows, "low"), 5)


class SplitsWrongInputTest(Case):
    def assert_row(self, row, index, kind="low", number=0):
        self.assert_error(InvalidRow, {"index": index}, count_splits, row, kind)
        self.assert_error(InvalidRow, {"index": index}, split_at, row, kind, number)

    def assert_rows(self, rows, index, kind="low"):
        self.assert_error(InvalidRows, {"index": index}, split_number, rows, kind)

    def test_the_row(self):
        for row in other_values() + [[4, 3], 7, "low"]:
            if not isinstance(row, tuple):
                with self.subTest(row=row):
                    self.assert_row(row, None)
        self.assert_row(tuple(range(1, 42)), None)
        self.assert_row(tuple(range(41)), None)
        for wrong in other_values() + [0, "5"]:
            with self.subTest(wrong=wrong):
                self.assert_row((wrong,), 0)
                self.assert_row((7, 8, wrong), 2)
        self.assert_row((5, 6, 5, 0), 2)

    def test_the_kind(self):
        for kind in other_values() + ["LOW", ["low"], 0]:
            with self.subTest(kind=kind):
                for row in [ROW, ()]:
                    self.assert_error(InvalidKind, {"kind": kind}, count_splits, row, kind)
                    self.assert_error(InvalidKind, {"kind": kind}, split_at, row, kind, 0)
                for rows in [((5, 1), (4,)), ((), ())]:
                    self.assert_error(InvalidKind, {"kind": kind}, split_number, rows, kind)

    def test_the_number(self):
        numbers = [-1, -2, 8, 9, 16, 2 ** 40, 10 ** 59, -(10 ** 59), True, False, "0", "5", (0,), [0]]
        for number in numbers + other_values():
            with self.subTest(number=number):
                self.assert_error(InvalidNumber, {"number": number}, split_at, ROW, "low", number)

    def test_the_number_of_splits_is_no_number_of_a_split(self):
        for row in short_rows(4) + [RISING, FALLING]:
            for kind in KINDS:
                count = count_splits(row, kind)
                split_at(row, kind, count - 1)
                self.assert_error(InvalidNumber, {"number": count}, split_at, row, kind, count)
        self.assert_error(InvalidNumber, {"number": 1}, split_at, (), "low", 1)

    def test_the_row_comes_first_then_the_kind_then_the_number(self):
        for value in other_values():
            with self.subTest(value=value):
                self.assert_row((4, 4), 1, value, value)
                self.assert_row([4], None, value, value)
                self.assert_error(InvalidKind, {"kind": value}, split_at, ROW, value, value)
                self.assert_rows(((4,), (4,)), 1, value)
                self.assert_rows(((4,),), None, value)

    def test_no_two_rows(self):
        for rows in other_values() + [[(1,), (2,)], 7, "ab", {(1,): (2,)}]:
            if not isinstance(rows, tuple) or len(rows) != 2:
                with self.subTest(rows=rows):
                    self.assert_rows(rows, None)
        for rows in [(), ((1,),), ((1,), (2,), (3,)), ((),) * 8, ((),) * 9]:
            with self.subTest(rows=rows):
                self.assert_rows(rows, None)

    def test_no_two_rows_of_which_one_is_wrong(self):
        for rows in [([1],), ((1, 1),), ((1,), (1,), (2,)), ((1,), None, ()), (None,) * 3]:
            with self.subTest(rows=rows):
                self.assert_rows(rows, None)

    def test_two_rows_of_which_one_is_wrong(self):
        for wrong in other_values() + [[5], (5, 5), (0,), 5]:
            with self.subTest(wrong=wrong):
                self.assert_rows((wrong, (1,)), 0)
                self.assert_rows(((7, 8), wrong), 1)
        self.assert_rows(((1, 2), (3, 2)), 1)
        self.assert_rows((FORTY, (41,)), 1)
        self.assert_rows(([1], (1, 1)), 0)


if __name__ == "__main__":
    unittest.main()
