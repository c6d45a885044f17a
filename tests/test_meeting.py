import itertools
import random
import unittest

from frontmeets.errors import InvalidKind, InvalidRows
from frontmeets.meeting import meet, meet_turns
from frontmeets.rows import split_trains
from tests.checks import Case
from tests.definitions import turns_of
from tests.samples import other_values

KINDS = ("low", "high")
ROWS = ((3, 1, 6, 2), (4, 5))
FORTY = tuple([17 * place % 41 for place in range(1, 41)])
FIVES = tuple([FORTY[start:start + 5] for start in range(0, 40, 5)])


def draw_rows():
    """Return tuples of rows with none to forty people in none to eight rows."""
    chance = random.Random(5)
    drawn = []
    for count in range(9):
        for _ in range(30):
            people = chance.sample(range(1, 1000), chance.randint(0, 40) if count else 0)
            cuts = sorted([chance.randint(0, len(people)) for _ in range(count - 1)])
            ends = cuts + [len(people)]
            rows = [tuple(people[start:end]) for start, end in zip([0] + cuts, ends)]
            drawn.append(tuple(rows[:count]))
    return drawn


class MeetTest(Case):
    def test_the_interface(self):
        for function in (meet, meet_turns):
            self.assert_interface(function, "frontmeets.meeting", ["rows", "kind"])

    def test_the_examples_of_the_document(self):
        self.assertEqual(
            [meet(ROWS, "low"), meet(ROWS, "high")], [(3, 1, 4, 5, 6, 2), (4, 5, 3, 1, 6, 2)]
        )
        self.assertEqual(meet_turns(ROWS, "low"), (0, 0, 1, 1, 0, 0))
        self.assert_error(InvalidRows, {"index": 1}, meet, ((2, 1), (1, 3)), "low")

    def test_the_turns_for_high(self):
        self.assertEqual(meet_turns(ROWS, "high"), (1, 1, 0, 0, 0, 0))

    def test_nobody(self):
        for kind in KINDS:
            for rows in [(), ((),), ((), ()), ((),) * 8]:
                with self.subTest(kind=kind, rows=rows):
                    self.assertEqual(meet(rows, kind), ())
                    self.assertEqual(meet_turns(rows, kind), ())

    def test_one_row(self):
        for kind in KINDS:
            for row in [(7,), (1, 2, 3), (3, 2, 1), (2, 3, 1), FORTY]:
                with self.subTest(kind=kind, row=row):
                    self.assertEqual(meet((row,), kind), row)
                    self.assertEqual(meet_turns((row,), kind), (0,) * len(row))
                    self.assertEqual(meet(((), row, ()), kind), row)
                    self.assertEqual(meet_turns(((), row, ()), kind), (1,) * len(row))

    def test_heights_are_compared_as_numbers(self):
        self.assertEqual(meet(((10,), (9,), (100,)), "low"), (9, 10, 100))
        self.assertEqual(meet(((10,), (9,), (100,)), "high"), (100, 10, 9))
        self.assertEqual(meet_turns(((10,), (9,), (100,)), "low"), (1, 0, 2))

    def test_only_the_fronts_count(self):
        self.assertEqual(meet(((5, 1), (4, 9)), "low"), (4, 5, 1, 9))
        self.assertEqual(meet(((5, 9), (6, 1)), "high"), (6, 5, 9, 1))

    def test_eight_rows_and_forty_people(self):
        self.assertEqual(meet(tuple([(height,) for height in (8, 3, 5, 1, 7, 2, 6, 4)]), "low"),
                         (1, 2, 3, 4, 5, 6, 7, 8))
        for kind in KINDS:
            heights, indexes = turns_of(FIVES, kind)
            self.assertEqual(len(heights), 40)
            self.assertEqual(meet(FIVES, kind), heights)
            self.assertEqual(meet_turns(FIVES, kind), indexes)

    def test_against_the_definition(self):
        for rows in draw_rows():
            for kind in KINDS:
                heights, indexes = turns_of(rows, kind)
                self.assertEqual(meet(rows, kind), heights)
                self.assertEqual(meet_turns(rows, kind), indexes)

    def test_all_ways_to_put_five_people_into_two_rows(self):
        for people in itertools.permutations(range(1, 6)):
            for cut in range(6):
                rows = (people[:cut], people[cut:])
                for kind in KINDS:
                    heights, indexes = turns_of(rows, kind)
                    self.assertEqual(meet(rows, kind), heights)
                    self.assertEqual(meet_turns(rows, kind), indexes)

    def test_the_turns_name_the_row_of_each_person(self):
        for rows in draw_rows():
            for kind in KINDS:
                pairs = list(zip(meet(rows, kind), meet_turns(rows, kind)))
                for index, row in enumerate(rows):
                    self.assertEqual(tuple([who for who, place in pairs if place == index]), row)

    def test_the_order_of_the_rows_does_not_matter(self):
        rows = ((3, 1, 6), (4, 5), (), (9, 2))
        for kind in KINDS:
            for mixed in itertools.permutations(rows):
                self.assertEqual(meet(mixed, kind), meet(rows, kind))
            self.assertEqual(meet(FIVES[::-1], kind), meet(FIVES, kind))

    def test_some_rows_may_meet_first(self):
        for rows in draw_rows():
            for kind in KINDS:
                for cut in range(1, len(rows) + 1):
                    first = meet(rows[:cut], kind)
                    self.assertEqual(meet((first,) + rows[cut:], kind), meet(rows, kind))

    def test_the_trains_of_the_result_are_those_of_the_rows(self):
        for rows in draw_rows():
            for kind in KINDS:
                trains = [train for row in rows for train in split_trains(row, kind)]
                expected = tuple(sorted(trains, reverse=kind == "high"))
                self.assertEqual(split_trains(meet(rows, kind), kind), expected)

    def test_by_position_and_by_name(self):
        names = ["rows", "kind"]
        self.assert_calls(meet, names, (ROWS, "low"), (3, 1, 4, 5, 6, 2))
        self.assert_calls(meet_turns, names, (ROWS, "low"), (0, 0, 1, 1, 0, 0))


class MeetWrongInputTest(Case):
    def assert_rows(self, rows, index, kind="low"):
        for function in (meet, meet_turns):
            self.assert_error(InvalidRows, {"index": index}, function, rows, kind)

    def test_no_tuple(self):
        for rows in other_values() + [list(ROWS), [], "", {(1,): (2,)}, {(1,)}, 7]:
            if not isinstance(rows, tuple):
                with self.subTest(rows=rows):
                    self.assert_rows(rows, None)

    def test_nine_rows(self):
        self.assert_rows(((),) * 9, None)
        self.assert_rows(tuple([(height,) for height in range(1, 10)]), None)
        self.assert_rows(((),) * 100, None)

    def test_nine_rows_of_which_one_is_wrong(self):
        for wrong in [(1, 1), [1], None, (0,), tuple(range(1, 42))]:
            with self.subTest(wrong=wrong):
                self.assert_rows((wrong,) + ((),) * 8, None)
                self.assert_rows(((),) * 8 + (wrong,), None)
        self.assert_rows(((5,), (5,)) + ((),) * 7, None)

    def test_an_element_that_is_no_row(self):
        wrongs = [[], [5], (0,), (1000,), (5, 5), (True,), (2, True), ((5,),), tuple(range(1, 42)),
                  5, "low", None, {5}, (5, None), (5, [6])]
        for wrong in wrongs:
            with self.subTest(wrong=wrong):
                self.assert_rows((wrong,), 0)
                self.assert_rows(((7, 8), wrong), 1)
                self.assert_rows(((7, 8), (), wrong, wrong), 2)
                self.assert_rows(((),) * 7 + (wrong,), 7)
        for wrong in other_values():
            with self.subTest(wrong=wrong):
                self.assert_rows(((7, 8), wrong), 1)

    def test_a_height_of_a_row_before(self):
        self.assert_rows(((1,), (1,)), 1)
        self.assert_rows(((1, 2), (), (3, 2)), 2)
        self.assert_rows(((1, 2), (3, 4), (5,), (6, 7, 1), (1,)), 3)
        self.assert_rows(((1,), (2,), (2,), (1,)), 2)

    def test_more_than_forty_people(self):
        self.assert_rows((FORTY, (41,)), 1)
        self.assert_rows((FORTY, (), (500,), (501,)), 2)
        self.assert_rows(FIVES[:7] + (FIVES[7] + (41,),), 7)
        self.assert_rows((FORTY[:30], tuple(range(100, 111))), 1)
        self.assertEqual(len(meet((FORTY[:30], tuple(range(100, 110))), "low")), 40)

    def test_the_first_wrong_element_counts(self):
        self.assert_rows(((1,), (1,), [2]), 1)
        self.assert_rows(((1,), [2], (1,)), 1)
        self.assert_rows((FORTY, (41,), (41, 41)), 1)
        self.assert_rows((FORTY[:39], FORTY[:1], (500, 501)), 1)

    def test_other_kinds(self):
        for kind in other_values() + ["LOW", "highest", "", 0, ("low",), ["low"]]:
            with self.subTest(kind=kind):
                for function in (meet, meet_turns):
                    self.assert_error(InvalidKind, {"kind": kind}, function, ROWS, kind)
                    self.assert_error(InvalidKind, {"kind": kind}, function, (), kind)

    def test_the_rows_are_checked_before_the_kind(self):
        for kind in other_values():
            with self.subTest(kind=kind):
                self.assert_rows([(1,)], None, kind)
                self.assert_rows(((1,), (1,)), 1, kind)
                self.assert_rows(((),) * 9, None, kind)

    def test_wrong_values_stay_as_they_were(self):
        rows = ((1, 2), [3, [4]])
        self.assert_rows(rows, 1)
        self.assertEqual(rows, ((1, 2), [3, [4]]))


if __name__ == "__main__":
    unittest.main()
