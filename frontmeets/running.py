"""Crowds, and what a plan makes of them."""

from frontmeets.errors import HeightTaken, InvalidCrowd, InvalidHeight, TooManyPeople
from frontmeets.limits import MOST_PEOPLE
from frontmeets.meeting import find_sources, find_wrong_pair, has_crowd_form, list_people
from frontmeets.plans import check_line, check_plan, find_result
from frontmeets.rows import is_height


def is_crowd(value):
    """Tell whether the value is a crowd; any value may be passed."""
    return has_crowd_form(value) and find_wrong_pair(value) is None


def check_crowd(plan, crowd):
    """Raise an error if the value is not a crowd of lines of the plan."""
    if not has_crowd_form(crowd):
        raise InvalidCrowd(None)
    index = find_wrong_pair(crowd)
    if index is not None:
        raise InvalidCrowd(index)
    for line, row in crowd:
        check_line(plan, line)


def run_plan(plan, crowd):
    """Return the row into which the plan turns the crowd."""
    check_plan(plan)
    check_crowd(plan, crowd)
    return find_result(plan, dict(crowd))


def source_lines(plan, crowd):
    """Return the tuple of the lines from which the people of the result come."""
    result = run_plan(plan, crowd)
    return tuple([line for line, height in find_sources(crowd, result)])


def next_person(plan, crowd):
    """Return the first person of the result, or None if all lines are empty."""
    result = run_plan(plan, crowd)
    return result[0] if result else None


def check_entry(plan, crowd, line, height):
    """Raise an error if no person of this height can enter the line beside the crowd."""
    check_line(plan, line)
    if not is_height(height):
        raise InvalidHeight(height)
    heights = list_people(crowd)
    if height in heights:
        raise HeightTaken(height)
    if len(heights) == MOST_PEOPLE:
        raise TooManyPeople(MOST_PEOPLE)


def exchanged(plan, crowd, line, height):
    """Return the pairs of people who change their order if a person of this height enters the line."""
    before = run_plan(plan, crowd)
    check_entry(plan, crowd, line, height)
    waiting = dict(crowd)
    waiting[line] = waiting.get(line, ()) + (height,)
    after = find_result(plan, waiting)
    pairs = [(first, second) for place, first in enumerate(before) for second in before[place + 1:]]
    return tuple(sorted([pair for pair in pairs if after.index(pair[0]) > after.index(pair[1])]))
