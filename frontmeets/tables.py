"""Tables of the kinds between lines: the plan that fits, or four lines that show that none does."""

from frontmeets.errors import InvalidTable
from frontmeets.limits import MOST_LINES
from frontmeets.plans import list_pairs
from frontmeets.rows import HIGH, LOW, is_kind, is_tuple_of, is_word


def is_triple(value):
    """Tell whether the value is a triple of two ascending lines and a kind."""
    if not is_tuple_of(value, 3):
        return False
    one, other, kind = value
    return is_word(one) and is_word(other) and one < other and is_kind(kind)


def find_wrong_triple(table):
    """Return the index of the first element that is no triple or does not ascend, or None."""
    for index, triple in enumerate(table):
        if not is_triple(triple) or (index > 0 and triple[:2] <= table[index - 1][:2]):
            return index
    return None


def list_table_lines(table):
    """Return the ascending list of the lines in the triples of the table."""
    return sorted(set([line for triple in table for line in triple[:2]]))


def has_all_pairs(table):
    """Tell whether the ascending triples are those of all pairs of two to eight lines."""
    lines = list_table_lines(table)
    if not 2 <= len(lines) <= MOST_LINES:
        return False
    return [triple[:2] for triple in table] == list_pairs(lines)


def is_table(value):
    """Tell whether the value is a table; any value may be passed."""
    return isinstance(value, tuple) and find_wrong_triple(value) is None and has_all_pairs(value)


def check_table(table):
    """Raise InvalidTable if the value is not a table."""
    if not isinstance(table, tuple):
        raise InvalidTable(None)
    index = find_wrong_triple(table)
    if index is not None:
        raise InvalidTable(index)
    if not has_all_pairs(table):
        raise InvalidTable(None)


def map_kinds(table):
    """Return a dict of the kinds between any two lines of the table, in both orders."""
    kinds = {}
    for one, other, kind in table:
        kinds[one, other] = kind
        kinds[other, one] = kind
    return kinds


def group_lines(lines, kinds, kind):
    """Return the smallest groups of lines with this kind between all lines of different groups."""
    groups = []
    for line in lines:
        apart = []
        group = [line]
        for earlier in groups:
            if any([kinds[line, member] != kind for member in earlier]):
                group.extend(earlier)
            else:
                apart.append(earlier)
        groups = apart + [sorted(group)]
    # Lists are compared by their first elements first, so by their least lines.
    return sorted(groups)


def build_plan(lines, kinds):
    """Return the flat plan of the ascending lines with these kinds between them, or None."""
    if len(lines) == 1:
        return lines[0]
    for kind in (LOW, HIGH):
        groups = group_lines(lines, kinds, kind)
        if len(groups) > 1:
            parts = [build_plan(group, kinds) for group in groups]
            if None in parts:
                return None
            return kind, tuple(parts)
    return None


def find_plan(table):
    """Return the flat plan that fits the table, or None if no plan fits it."""
    check_table(table)
    return build_plan(list_table_lines(table), map_kinds(table))


def is_chain(four, kinds):
    """Tell whether neighbours among the four lines have the kind low, and other pairs the kind high."""
    first, second, third, fourth = four
    near = [(first, second), (second, third), (third, fourth)]
    far = [(first, third), (second, fourth), (first, fourth)]
    # A line has no kind with itself, so four lines of which some are the same are no chain.
    return [kinds.get(pair) for pair in near + far] == [LOW] * 3 + [HIGH] * 3


def find_four(table):
    """Return four lines that show that no plan fits the table, or None if one fits it."""
    check_table(table)
    kinds = map_kinds(table)
    lines = list_table_lines(table)
    # Only chains of low pairs are looked for: if W, X, Y, Z are a chain of high ones, then
    # X, Z, W, Y are a chain of low ones.
    pairs = [(one, other) for one in lines for other in lines]
    for pair in pairs:
        for rest in pairs:
            if is_chain(pair + rest, kinds):
                return pair + rest
    return None
