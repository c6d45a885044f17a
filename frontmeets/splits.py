"""The splits of a row: the pairs of rows that meet with this row as their result."""

from frontmeets.errors import InvalidNumber, InvalidRows
from frontmeets.meeting import meet
from frontmeets.rows import is_below, split_trains


def count_choices(trains):
    """Return in how many ways each of the trains can be put into one of two rows."""
    count = 1
    for train in trains:
        count *= 2
    return count


def count_splits(row, kind):
    """Return the number of splits of the row for this kind."""
    return count_choices(split_trains(row, kind))


def split_at(row, kind, number):
    """Return the split of the row with this number."""
    trains = split_trains(row, kind)
    if not is_below(number, count_choices(trains)):
        raise InvalidNumber(number)
    first = []
    second = []
    left = number
    for train in trains:
        if left % 2 == 1:
            second.extend(train)
        else:
            first.extend(train)
        left //= 2
    return tuple(first), tuple(second)


def split_number(rows, kind):
    """Return the number of the split `rows` of the result of these rows."""
    if not isinstance(rows, tuple) or len(rows) != 2:
        raise InvalidRows(None)
    number = 0
    worth = 1
    # A train never comes from both rows, so its head tells where all of it belongs.
    for train in split_trains(meet(rows, kind), kind):
        if train[0] in rows[1]:
            number += worth
        worth *= 2
    return number
