"""Tables of the kinds between lines: the plan that fits, or four lines that show that none does."""

from frontmeets.errors import InvalidTable
from frontmeets.plans import (
    find_wrong_triple, has_all_pairs, is_four, is_table_of_kinds, list_table_lines, map_kinds,
)
from frontmeets.rows import HIGH, LOW


def is_table(value):
    """Tell whether the value is a table; any value may be passed."""
    return is_table_of_kinds(value)


def check_table(table):
    """Raise InvalidTable if the value is not a table."""
    if not isinstance(table, tuple):
        raise InvalidTable(None)
    index = find_wrong_triple(table)
    if index is not None:
        raise InvalidTable(index)
    if not has_all_pairs(table):
        raise InvalidTable(None)


def group_lines(lines, kinds, kind):
    """Return the smallest groups of lines with this kind between all lines of different groups."""
    groups = []
    for line in lines:
        apart = []
        group = [line]
        for earlier in groups:
            if any([kinds[line, member] != kind for member in earlier]):
                group.extend(earlier)
            else:
                apart.append(earlier)
        groups = apart + [sorted(group)]
    # Lists are compared by their first elements first, so by their least lines.
    return sorted(groups)


def build_plan(lines, kinds):
    """Return the flat plan of the ascending lines with these kinds between them, or None."""
    if len(lines) == 1:
        return lines[0]
    for kind in (LOW, HIGH):
        groups = group_lines(lines, kinds, kind)
        if len(groups) > 1:
            parts = [build_plan(group, kinds) for group in groups]
            if None in parts:
                return None
            return kind, tuple(parts)
    return None


def find_plan(table):
    """Return the flat plan that fits the table, or None if no plan fits it."""
    check_table(table)
    return build_plan(list_table_lines(table), map_kinds(table))


def find_four(table):
    """Return four lines that show that no plan fits the table, or None if one fits it."""
    check_table(table)
    kinds = map_kinds(table)
    lines = list_table_lines(table)
    pairs = [(one, other) for one in lines for other in lines]
    for pair in pairs:
        for rest in pairs:
            if is_four(pair + rest, kinds):
                return pair + rest
    return None
