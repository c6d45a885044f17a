"""Definitions of the document, followed step by step, which the results are compared with."""

import itertools


def turns_of(rows, kind):
    """Return (heights, indexes of the rows) of the people in the order in which they go (point 6)."""
    waiting = [list(row) for row in rows]
    heights = []
    indexes = []
    while any(waiting):
        fronts = {row[0]: index for index, row in enumerate(waiting) if row}
        height = min(fronts) if kind == "low" else max(fronts)
        heights.append(height)
        indexes.append(fronts[height])
        del waiting[fronts[height]][0]
    return tuple(heights), tuple(indexes)


def result_of(plan, waiting):
    """Return the result of the plan for a dict of the rows in its lines (point 12)."""
    if isinstance(plan, str):
        return waiting.get(plan, ())
    return turns_of([result_of(part, waiting) for part in plan[1]], plan[0])[0]


def lines_in(plan):
    """Return the list of the lines of the plan, in the order in which they stand there."""
    if isinstance(plan, str):
        return [plan]
    return [line for part in plan[1] for line in lines_in(part)]


def kinds_in(plan):
    """Return a dict of the kinds between any two lines, in both orders (point 10)."""
    if isinstance(plan, str):
        return {}
    kinds = {}
    for part in plan[1]:
        kinds.update(kinds_in(part))
    for part, other in itertools.permutations(plan[1], 2):
        for pair in itertools.product(lines_in(part), lines_in(other)):
            kinds[pair] = plan[0]
    return kinds


def table_in(plan):
    """Return the table that the plan fits (point 14)."""
    kinds = kinds_in(plan)
    pairs = itertools.combinations(sorted(lines_in(plan)), 2)
    return tuple([pair + (kinds[pair],) for pair in pairs])


def is_flat(plan):
    """Tell whether the plan is flat (point 11)."""
    if isinstance(plan, str):
        return True
    kind, parts = plan
    least = [min(lines_in(part)) for part in parts]
    return (
        least == sorted(least)
        and not any([isinstance(part, tuple) and part[0] == kind for part in parts])
        and all([is_flat(part) for part in parts])
    )


def junctions_in(plan, path=()):
    """Return the list of (path, junction) of all junctions of the plan (point 9)."""
    if isinstance(plan, str):
        return []
    found = [(path, plan)]
    for index, part in enumerate(plan[1]):
        found += junctions_in(part, path + (index,))
    return found
