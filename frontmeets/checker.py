"""A checker: whatever it accepts is true, no matter who wrote it."""

from frontmeets.meeting import are_names, find_breakers, keeps_lines
from frontmeets.plans import (
    find_comparisons, find_meeting_kind, find_part, find_result, find_turns, find_wrong_record,
    find_wrong_run, fits, has_line, is_four, is_plan, is_table_of_kinds, kind_table, lines_of,
    list_junctions, make_step, map_kinds,
)
from frontmeets.rows import (
    HIGH, LOW, begins_with_string, is_below, is_few, is_height, is_row, is_tuple_of, is_word,
)

MOST_STEPS = 100


def is_marked(value, word, size):
    """Tell whether the value is a tuple with so many elements of which the first is the word."""
    return begins_with_string(value) and value[0] == word and len(value) == size


def find_junction(plan, path):
    """Return the junction to which the value leads in the plan, or None if it is no path to one."""
    if not isinstance(path, tuple):
        return None
    part = find_part(plan, path)
    return None if isinstance(part, str) else part


def check_same(claim, paper):
    """Tell whether the paper is steps that lead from one plan to the other."""
    plan, other = claim[1:]
    if not is_plan(plan) or not is_plan(other):
        return False
    if not isinstance(paper, tuple) or len(paper) > MOST_STEPS:
        return False
    reached = plan
    for step in paper:
        reached = make_step(reached, step)
        if reached is None:
            return False
    return reached == other


def check_different(claim, paper):
    """Tell whether the paper is two lines that meet at junctions of different kinds in the plans."""
    plan, other = claim[1:]
    if not is_plan(plan) or not is_plan(other) or lines_of(plan) != lines_of(other):
        return False
    if not is_tuple_of(paper, 2) or not all([has_line(plan, line) for line in paper]):
        return False
    one, two = paper
    return one != two and find_meeting_kind(plan, one, two) != find_meeting_kind(other, one, two)


def check_plan_paper(claim, paper):
    """Tell whether the paper is a plan that fits the table."""
    table = claim[1]
    return is_table_of_kinds(table) and is_plan(paper) and kind_table(paper) == table


def check_no_plan(claim, paper):
    """Tell whether the paper is four lines that show that no plan fits the table."""
    table = claim[1]
    if not is_table_of_kinds(table) or not is_tuple_of(paper, 4):
        return False
    return all([is_word(line) for line in paper]) and is_four(paper, map_kinds(table))


def has_sources(claim):
    """Tell whether the claim holds a plan, a row and a line of the plan for each of its people."""
    plan, row, sources = claim[1:]
    if not is_plan(plan) or not is_row(row) or not is_tuple_of(sources, len(row)):
        return False
    return all([has_line(plan, line) for line in sources])


def list_breakers(claim, junction):
    """Return the list of the people who break the condition at the junction."""
    row, sources = claim[2:]
    return find_breakers(find_turns(junction, list(zip(sources, row))), junction[0])


def check_possible(claim, paper):
    """Tell whether the people may have come from these lines, for which None is the paper."""
    if not has_sources(claim) or paper is not None:
        return False
    return not any([list_breakers(claim, junction) for path, junction in list_junctions(claim[1])])


def check_impossible(claim, paper):
    """Tell whether the paper is a path and a person who breaks the condition at its junction."""
    if not has_sources(claim) or not is_tuple_of(paper, 2):
        return False
    path, height = paper
    junction = find_junction(claim[1], path)
    if junction is None or not is_height(height):
        return False
    return height in list_breakers(claim, junction)


def has_records(claim):
    """Tell whether the claim holds a plan and records of it."""
    plan, records = claim[1:]
    return is_plan(plan) and is_few(records) and find_wrong_record(plan, records) is None


def explains(plan, record, order):
    """Tell whether the order, which has the names of the record, explains it."""
    heights = {name: order.index(name) + 1 for name in order}
    waiting = {line: tuple([heights[name] for name in names]) for line, names in record[0]}
    return find_result(plan, waiting) == tuple([heights[name] for name in record[1]])


def check_order(claim, paper):
    """Tell whether the paper is an order that explains all records."""
    if not has_records(claim) or not are_names(paper):
        return False
    plan, records = claim[1:]
    if sorted(paper) != sorted(records[0][1]):
        return False
    return all([explains(plan, record, paper) for record in records])


def is_broken(pairs, index):
    """Tell whether a line has another order in the (waiting, result) with this index."""
    return is_below(index, len(pairs)) and not keeps_lines(pairs[index][0], pairs[index][1])


def is_compared(value, compared):
    """Tell whether the value is a comparison with the index of a record, if these are compared."""
    if not is_tuple_of(value, 3) or not is_word(value[0]) or not is_word(value[1]):
        return False
    if not is_below(value[2], len(compared)):
        return False
    pairs = compared[value[2]]
    return pairs is not None and value[:2] in pairs


def is_cycle(value, compared):
    """Tell whether the value is a tuple of comparisons that lead in a circle."""
    if not isinstance(value, tuple) or not value:
        return False
    if not all([is_compared(step, compared) for step in value]):
        return False
    following = value[1:] + value[:1]
    return [step[1] for step in value] == [step[0] for step in following]


def check_no_order(claim, paper):
    """Tell whether the paper is a record with a broken line, or comparisons in a circle."""
    if not has_records(claim):
        return False
    plan, records = claim[1:]
    if is_marked(paper, "line", 2):
        return is_broken(records, paper[1])
    if is_marked(paper, "cycle", 2):
        return is_cycle(paper[1], [find_comparisons(plan, record) for record in records])
    return False


def has_runs(claim):
    """Tell whether the claim holds a plan and runs of it."""
    plan, runs = claim[1:]
    return is_plan(plan) and is_few(runs) and find_wrong_run(plan, runs) is None


def has_shape(plan, other):
    """Tell whether two plans have the same shape."""
    if isinstance(plan, str) or isinstance(other, str):
        return plan == other
    if len(plan[1]) != len(other[1]):
        return False
    return all([has_shape(part, twin) for part, twin in zip(plan[1], other[1])])


def check_kinds(claim, paper):
    """Tell whether the paper is a plan of the same shape that explains all runs."""
    if not has_runs(claim) or not is_plan(paper):
        return False
    plan, runs = claim[1:]
    return has_shape(plan, paper) and all([find_result(paper, dict(crowd)) == row for crowd, row in runs])


def is_misfit(junction, kind, runs, index):
    """Tell whether the kind does not fit the junction in the run with this index."""
    return is_below(index, len(runs)) and not fits(junction, kind, runs[index])


def check_no_kinds(claim, paper):
    """Tell whether the paper is a run with a broken line, or a junction that no kind fits."""
    if not has_runs(claim):
        return False
    plan, runs = claim[1:]
    if is_marked(paper, "line", 2):
        return is_broken(runs, paper[1])
    if not is_marked(paper, "junction", 4):
        return False
    junction = find_junction(plan, paper[1])
    if junction is None:
        return False
    return is_misfit(junction, LOW, runs, paper[2]) and is_misfit(junction, HIGH, runs, paper[3])


CHECKS = {
    "same": check_same, "different": check_different, "plan": check_plan_paper, "no plan": check_no_plan,
    "possible": check_possible, "impossible": check_impossible, "order": check_order,
    "no order": check_no_order, "kinds": check_kinds, "no kinds": check_no_kinds,
}
SIZES = {
    "same": 3, "different": 3, "plan": 2, "no plan": 2, "possible": 4, "impossible": 4,
    "order": 3, "no order": 3, "kinds": 3, "no kinds": 3,
}


def check(claim, paper):
    """Tell whether the paper is evidence for the claim; any values may be passed."""
    if not begins_with_string(claim) or SIZES.get(claim[0]) != len(claim):
        return False
    action = CHECKS[claim[0]]
    return action(claim, paper)
