"""Crowds, and what a plan makes of them."""

from frontmeets.errors import HeightTaken, InvalidCrowd, InvalidHeight, TooManyPeople, UnknownLine
from frontmeets.limits import MOST_LINES, MOST_PEOPLE
from frontmeets.meeting import fits_beside, merge_rows
from frontmeets.plans import check_line, check_plan, is_line
from frontmeets.rows import is_height, is_row


def is_crowd_pair(value):
    """Tell whether the value is a pair of a line and a row."""
    return isinstance(value, tuple) and len(value) == 2 and is_line(value[0]) and is_row(value[1])


def find_wrong_pair(crowd):
    """Return the index of the first element that cannot stand behind those before, or None."""
    heights = []
    for index, pair in enumerate(crowd):
        if not is_crowd_pair(pair) or (index > 0 and pair[0] <= crowd[index - 1][0]):
            return index
        if not fits_beside(pair[1], heights):
            return index
        heights.extend(pair[1])
    return None


def has_crowd_form(value):
    """Tell whether the value is a tuple with no more elements than a crowd may have."""
    return isinstance(value, tuple) and len(value) <= MOST_LINES


def is_crowd(value):
    """Tell whether the value is a crowd; any value may be passed."""
    return has_crowd_form(value) and find_wrong_pair(value) is None


def check_crowd(plan, crowd):
    """Raise an error if the value is not a crowd of lines of the plan."""
    if not has_crowd_form(crowd):
        raise InvalidCrowd(None)
    index = find_wrong_pair(crowd)
    if index is not None:
        raise InvalidCrowd(index)
    for line, row in crowd:
        check_line(plan, line)


def find_result(plan, waiting):
    """Return the result of the plan for a dict of the rows in its lines."""
    if isinstance(plan, str):
        return waiting.get(plan, ())
    kind, parts = plan
    return merge_rows([find_result(part, waiting) for part in parts], kind)


def run_plan(plan, crowd):
    """Return the row into which the plan turns the crowd."""
    check_plan(plan)
    check_crowd(plan, crowd)
    return find_result(plan, dict(crowd))


def source_lines(plan, crowd):
    """Return the tuple of the lines from which the people of the result come."""
    result = run_plan(plan, crowd)
    sources = {height: line for line, row in crowd for height in row}
    return tuple([sources[height] for height in result])


def next_person(plan, crowd):
    """Return the first person of the result, or None if all lines are empty."""
    result = run_plan(plan, crowd)
    return result[0] if result else None


def check_entry(plan, crowd, line, height):
    """Raise an error if no person of this height can enter the line beside the crowd."""
    check_line(plan, line)
    if not is_height(height):
        raise InvalidHeight(height)
    heights = [person for source, row in crowd for person in row]
    if height in heights:
        raise HeightTaken(height)
    if len(heights) == MOST_PEOPLE:
        raise TooManyPeople(MOST_PEOPLE)


def exchanged(plan, crowd, line, height):
    """Return the pairs of people who change their order if a person of this height enters the line."""
    before = run_plan(plan, crowd)
    check_entry(plan, crowd, line, height)
    waiting = dict(crowd)
    waiting[line] = waiting.get(line, ()) + (height,)
    after = find_result(plan, waiting)
    pairs = [(first, second) for place, first in enumerate(before) for second in before[place + 1:]]
    return tuple(sorted([pair for pair in pairs if after.index(pair[0]) > after.index(pair[1])]))
