"""Plans: their lines and junctions, tables of kinds, paths, steps, and who comes to which junction."""

from frontmeets.errors import InvalidNames, InvalidPlan, LastLine, UnknownLine
from frontmeets.limits import MOST_LINES
from frontmeets.meeting import (
    compare_turns, find_breakers, find_sources, is_record, is_run, keeps_lines, merge_rows,
)
from frontmeets.rows import HIGH, LOW, is_below, is_kind, is_tuple_of, is_word


def has_junction_form(value):
    """Tell whether the value is a pair of a kind and two or more parts, whatever the parts are."""
    if not is_tuple_of(value, 2):
        return False
    kind, parts = value
    return is_kind(kind) and isinstance(parts, tuple) and len(parts) >= 2


def add_lines(value, lines):
    """Append the lines of the value to the list; return False at once where it can be no plan."""
    if is_word(value):
        if value in lines or len(lines) == MOST_LINES:
            return False
        lines.append(value)
        return True
    if not has_junction_form(value):
        return False
    for part in value[1]:
        if not add_lines(part, lines):
            return False
    return True


def is_plan(value):
    """Tell whether the value is a plan; any value may be passed."""
    return add_lines(value, [])


def check_plan(plan):
    """Raise InvalidPlan if the value is not a plan."""
    if not is_plan(plan):
        raise InvalidPlan(plan)


def list_lines(plan):
    """Return the list of the lines of the plan, in the order in which they stand there."""
    lines = []
    add_lines(plan, lines)
    return lines


def lines_of(plan):
    """Return the ascending tuple of the lines of the plan."""
    check_plan(plan)
    return tuple(sorted(list_lines(plan)))


def has_line(plan, value):
    """Tell whether the value, which may be any, is a line of the plan."""
    return is_word(value) and value in list_lines(plan)


def check_line(plan, line):
    """Raise UnknownLine if the value is not a line of the plan."""
    if not has_line(plan, line):
        raise UnknownLine(line)


def find_kind(plan):
    """Return the kind of the plan if it is a junction, None if it is a line."""
    if isinstance(plan, str):
        return None
    return plan[0]


def find_least(plan):
    """Return the least line of the plan."""
    return min(list_lines(plan))


def make_flat(plan):
    """Return the flat plan to which steps lead from the plan, which is not checked."""
    if isinstance(plan, str):
        return plan
    kind, parts = plan
    flat_parts = []
    for part in parts:
        flat = make_flat(part)
        if find_kind(flat) == kind:
            flat_parts.extend(flat[1])
        else:
            flat_parts.append(flat)
    return kind, tuple(sorted(flat_parts, key=find_least))


def flatten(plan):
    """Return the flat plan to which steps lead from the plan."""
    check_plan(plan)
    return make_flat(plan)


def find_meeting_kind(plan, one, other):
    """Return the kind between two different lines of the plan, which are not checked."""
    kind, parts = plan
    for part in parts:
        lines = list_lines(part)
        if one in lines and other in lines:
            return find_meeting_kind(part, one, other)
    return kind


def kind_between(plan, one, other):
    """Return the kind of the junction at which the two lines meet."""
    check_plan(plan)
    check_line(plan, one)
    if not has_line(plan, other) or other == one:
        raise UnknownLine(other)
    return find_meeting_kind(plan, one, other)


def list_pairs(lines):
    """Return the list of the pairs of lines, each in the order in which they are given."""
    return [(one, other) for place, one in enumerate(lines) for other in lines[place + 1:]]


def kind_table(plan):
    """Return the table of the kinds between the lines of the plan."""
    pairs = list_pairs(lines_of(plan))
    return tuple([(one, other, find_meeting_kind(plan, one, other)) for one, other in pairs])


def is_triple(value):
    """Tell whether the value is a triple of two ascending lines and a kind."""
    if not is_tuple_of(value, 3):
        return False
    one, other, kind = value
    return is_word(one) and is_word(other) and one < other and is_kind(kind)


def find_wrong_triple(table):
    """Return the index of the first element that is no triple or does not ascend, or None."""
    for index, triple in enumerate(table):
        if not is_triple(triple) or (index > 0 and triple[:2] <= table[index - 1][:2]):
            return index
    return None


def list_table_lines(table):
    """Return the ascending list of the lines in the triples of the table."""
    return sorted(set([line for triple in table for line in triple[:2]]))


def has_all_pairs(table):
    """Tell whether the ascending triples are those of all pairs of two to eight lines."""
    lines = list_table_lines(table)
    if not 2 <= len(lines) <= MOST_LINES:
        return False
    return [triple[:2] for triple in table] == list_pairs(lines)


def is_table_of_kinds(value):
    """Tell whether the value is a table; any value may be passed."""
    return isinstance(value, tuple) and find_wrong_triple(value) is None and has_all_pairs(value)


def map_kinds(table):
    """Return a dict of the kinds between any two lines of the table, in both orders."""
    kinds = {}
    for one, other, kind in table:
        kinds[one, other] = kind
        kinds[other, one] = kind
    return kinds


def is_four(four, kinds):
    """Tell whether these four lines W, X, Y, Z show that no plan has these kinds between its lines."""
    first, second, third, fourth = four
    near = [(first, second), (second, third), (third, fourth)]
    far = [(first, third), (second, fourth), (first, fourth)]
    # A line has no kind with itself, so lines of which some are the same show nothing.
    found = [kinds.get(pair) for pair in near + far]
    return found in ([LOW] * 3 + [HIGH] * 3, [HIGH] * 3 + [LOW] * 3)


def keep_lines(plan, lines):
    """Return what is left of the plan with only these lines, or None if nothing is left."""
    if isinstance(plan, str):
        return plan if plan in lines else None
    kind, parts = plan
    kept = [keep_lines(part, lines) for part in parts]
    left = [part for part in kept if part is not None]
    if len(left) > 1:
        return kind, tuple(left)
    return left[0] if left else None


def without_line(plan, line):
    """Return the plan without this line."""
    check_plan(plan)
    check_line(plan, line)
    others = [other for other in list_lines(plan) if other != line]
    if not others:
        raise LastLine()
    return keep_lines(plan, others)


def find_wrong_name(plan, names):
    """Return the index of the first element that is no line of the plan or does not ascend, or None."""
    for index, name in enumerate(names):
        if not has_line(plan, name) or (index > 0 and name <= names[index - 1]):
            return index
    return None


def restrict(plan, names):
    """Return the flat plan with just these lines and the kinds that the plan has between them."""
    check_plan(plan)
    if not isinstance(names, tuple) or not names:
        raise InvalidNames(None)
    index = find_wrong_name(plan, names)
    if index is not None:
        raise InvalidNames(index)
    return make_flat(keep_lines(plan, names))


def find_part(plan, path):
    """Return the part of the plan to which the path leads, or None if it leads nowhere."""
    part = plan
    for index in path:
        if isinstance(part, str) or not is_below(index, len(part[1])):
            return None
        part = part[1][index]
    return part


def put_part(plan, path, part):
    """Return the plan in which this part stands where the path leads."""
    if not path:
        return part
    kind, parts = plan
    index = path[0]
    changed = put_part(parts[index], path[1:], part)
    return kind, parts[:index] + (changed,) + parts[index + 1:]


def list_junctions(plan):
    """Return the list of (path, junction) of all junctions of the plan, in ascending order of the paths."""
    if isinstance(plan, str):
        return []
    found = [((), plan)]
    for index, part in enumerate(plan[1]):
        found.extend([((index,) + path, junction) for path, junction in list_junctions(part)])
    return found


def join_part(junction, index):
    """Return the parts of the junction after a join, or None if it cannot be made."""
    kind, parts = junction
    if not is_below(index, len(parts)) or find_kind(parts[index]) != kind:
        return None
    return parts[:index] + parts[index][1] + parts[index + 1:]


def group_parts(junction, first, last):
    """Return the parts of the junction after a grouping, or None if it cannot be made."""
    kind, parts = junction
    if not is_below(last, len(parts)) or not is_below(first, last):
        return None
    group = parts[first:last + 1]
    if len(group) == len(parts):
        return None
    return parts[:first] + ((kind, group),) + parts[last + 1:]


def exchange_parts(junction, index):
    """Return the parts of the junction after an exchange, or None if it cannot be made."""
    parts = junction[1]
    if not is_below(index, len(parts) - 1):
        return None
    return parts[:index] + (parts[index + 1], parts[index]) + parts[index + 2:]


def change_parts(junction, step):
    """Return the parts of the junction after the step, a tuple, or None if it cannot be made."""
    word = step[0]
    if not isinstance(word, str):
        return None
    if word == "join" and len(step) == 3:
        return join_part(junction, step[2])
    if word == "group" and len(step) == 4:
        return group_parts(junction, step[2], step[3])
    if word == "exchange" and len(step) == 3:
        return exchange_parts(junction, step[2])
    return None


def make_step(plan, step):
    """Return the plan after the step, or None if the value is no step that can be made in it."""
    if not isinstance(step, tuple) or len(step) < 2 or not isinstance(step[1], tuple):
        return None
    junction = find_part(plan, step[1])
    if junction is None or isinstance(junction, str):
        return None
    parts = change_parts(junction, step)
    if parts is None:
        return None
    return put_part(plan, step[1], (junction[0], parts))


def find_result(plan, waiting):
    """Return the result of the plan for a dict of the rows in its lines."""
    if isinstance(plan, str):
        return waiting.get(plan, ())
    kind, parts = plan
    return merge_rows([find_result(part, waiting) for part in parts], kind)


def find_turns(junction, people):
    """Return the list of (index of the part, person) of those of the people who come to the junction.

    The people are pairs of a line and a person, in the order in which they go.
    """
    parts = {line: index for index, part in enumerate(junction[1]) for line in list_lines(part)}
    return [(parts[line], person) for line, person in people if line in parts]


def has_lines(plan, waiting):
    """Tell whether the lines of all pairs are lines of the plan."""
    lines = list_lines(plan)
    return all([pair[0] in lines for pair in waiting])


def find_wrong_record(plan, records):
    """Return the index of the first element that is no record of the plan or has other names, or None."""
    for index, record in enumerate(records):
        if not is_record(record) or not has_lines(plan, record[0]):
            return index
        if sorted(record[1]) != sorted(records[0][1]):
            return index
    return None


def find_comparisons(plan, record):
    """Return the list of the pairs (shorter, taller) that the junctions compare, or None."""
    if not keeps_lines(record[0], record[1]):
        return None
    people = find_sources(record[0], record[1])
    pairs = []
    for path, junction in list_junctions(plan):
        pairs.extend(compare_turns(find_turns(junction, people), junction[0]))
    return pairs


def find_wrong_run(plan, runs):
    """Return the index of the first element that is no run of the plan, or None."""
    for index, run in enumerate(runs):
        if not is_run(run) or not has_lines(plan, run[0]):
            return index
    return None


def fits(junction, kind, run):
    """Tell whether the kind fits the junction in the run."""
    turns = find_turns(junction, find_sources(run[0], run[1]))
    return not find_breakers(turns, kind)
