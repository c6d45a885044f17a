"""Plans with the same effect: where two plans differ, and the steps that lead from one to another."""

from frontmeets.errors import InvalidSize, InvalidStep, NotSame, OtherLines
from frontmeets.limits import MOST_LINES
from frontmeets.plans import (
    check_plan, find_kind, find_least, find_part, kind_table, lines_of, list_junctions, make_step,
)
from frontmeets.rows import is_number


def difference(plan, other):
    """Return the first pair of lines between which the kinds are different, or None."""
    # This also checks that both are plans, one after the other.
    if lines_of(plan) != lines_of(other):
        raise OtherLines()
    for triple, twin in zip(kind_table(plan), kind_table(other)):
        if triple != twin:
            return triple[:2]
    return None


def same_effect(plan, other):
    """Tell whether both plans turn all crowds of their lines into the same rows."""
    return difference(plan, other) is None


def apply_step(plan, step):
    """Return the plan after the step."""
    check_plan(plan)
    changed = make_step(plan, step)
    if changed is None:
        raise InvalidStep(step)
    return changed


def find_join(plan):
    """Return the first join that can be made in the plan, or None."""
    for path, junction in list_junctions(plan):
        for index, part in enumerate(junction[1]):
            if find_kind(part) == junction[0]:
                return "join", path, index
    return None


def find_exchange(plan):
    """Return the first exchange that puts two parts in the order of their least lines, or None."""
    for path, junction in list_junctions(plan):
        least = [find_least(part) for part in junction[1]]
        for index, line in enumerate(least[1:]):
            if line < least[index]:
                return "exchange", path, index
    return None


def find_flat_step(plan):
    """Return the next step on the way to the flat plan, or None if the plan is flat."""
    step = find_join(plan)
    if step is None:
        step = find_exchange(plan)
    return step


def turn_step(plan, step):
    """Return the step that takes back this join or exchange, if it is made in the plan."""
    word, path, index = step
    if word == "exchange":
        return step
    joined = find_part(plan, path + (index,))
    return "group", path, index, index + len(joined[1]) - 1


def list_flat_steps(plan):
    """Return the list of (step, step that takes it back) that lead from the plan to the flat plan."""
    # With eight lines there are at most 6 joins, as one of 7 junctions is left, and at most
    # 28 exchanges, as each puts two lines in order that never change places again.
    steps = []
    reached = plan
    step = find_flat_step(reached)
    while step is not None:
        steps.append((step, turn_step(reached, step)))
        reached = make_step(reached, step)
        step = find_flat_step(reached)
    return steps


def derivation(plan, other):
    """Return a tuple of at most 100 steps that lead from the plan to the other plan."""
    pair = difference(plan, other)
    if pair is not None:
        raise NotSame(pair[0], pair[1])
    there = [step for step, back in list_flat_steps(plan)]
    back_again = [back for step, back in list_flat_steps(other)]
    return tuple(there + back_again[::-1])


def count_choices(count, size):
    """Return in how many ways so many of `size` lines can be chosen."""
    ways = 1
    for place in range(count):
        ways = ways * (size - place) // (place + 1)
    return ways


def count_plans(size):
    """Return the number of different effects of plans with so many given lines."""
    if not is_number(size) or not 1 <= size <= MOST_LINES:
        raise InvalidSize(size)
    # Each effect has just one flat plan, so these are counted: all of them, and those that can be
    # a part of a junction of one given kind, which are a line or the junctions of the other kind.
    plans = [0, 1]
    parts = [0, 1]
    for count in range(2, size + 1):
        junctions = 0
        # The part with the least line has `first` lines. The other lines are one part more, or
        # several, which together are a junction of this kind: in all as many as there are plans.
        for first in range(1, count):
            ways = count_choices(first - 1, count - 1)
            junctions += ways * parts[first] * plans[count - first]
        parts.append(junctions)
        plans.append(2 * junctions)
    return plans[size]
