"""Definitions of the document, followed step by step, which the results are compared with."""

import itertools


def turns_of(rows, kind):
    """Return (heights, indexes of the rows) of the people in the order in which they go (point 6)."""
    waiting = [list(row) for row in rows]
    heights = []
    indexes = []
    while any(waiting):
        fronts = {row[0]: index for index, row in enumerate(waiting) if row}
        height = min(fronts) if kind == "low" else max(fronts)
        heights.append(height)
        indexes.append(fronts[height])
        del waiting[fronts[height]][0]
    return tuple(heights), tuple(indexes)


def result_of(plan, waiting):
    """Return the result of the plan for a dict of the rows in its lines (point 12)."""
    if isinstance(plan, str):
        return waiting.get(plan, ())
    return turns_of([result_of(part, waiting) for part in plan[1]], plan[0])[0]


def lines_in(plan):
    """Return the list of the lines of the plan, in the order in which they stand there."""
    if isinstance(plan, str):
        return [plan]
    return [line for part in plan[1] for line in lines_in(part)]


def kinds_in(plan):
    """Return a dict of the kinds between any two lines, in both orders (point 10)."""
    if isinstance(plan, str):
        return {}
    kinds = {}
    for part in plan[1]:
        kinds.update(kinds_in(part))
    for part, other in itertools.permutations(plan[1], 2):
        for pair in itertools.product(lines_in(part), lines_in(other)):
            kinds[pair] = plan[0]
    return kinds


def table_in(plan):
    """Return the table that the plan fits (point 14)."""
    kinds = kinds_in(plan)
    pairs = itertools.combinations(sorted(lines_in(plan)), 2)
    return tuple([pair + (kinds[pair],) for pair in pairs])


def is_flat(plan):
    """Tell whether the plan is flat (point 11)."""
    if isinstance(plan, str):
        return True
    kind, parts = plan
    least = [min(lines_in(part)) for part in parts]
    return (
        least == sorted(least)
        and not any([isinstance(part, tuple) and part[0] == kind for part in parts])
        and all([is_flat(part) for part in parts])
    )


def junctions_in(plan, path=()):
    """Return the list of (path, junction) of all junctions of the plan (point 9)."""
    if isinstance(plan, str):
        return []
    found = [(path, plan)]
    for index, part in enumerate(plan[1]):
        found += junctions_in(part, path + (index,))
    return found


def split_people(people, junction):
    """Return the list of (index of the part, person) of those who come through the junction.

    The people are pairs (person, line) in the order in which they go.
    """
    return [
        (index, person) for person, line in people
        for index, part in enumerate(junction[1]) if line in lines_in(part)
    ]


def breakers_at(junction, people):
    """Return the list of the people who break the condition of point 3 at the junction."""
    come = split_people(people, junction)
    breakers = []
    for place in range(1, len(come)):
        before = [height for _, height in come[:place]]
        part, height = come[place]
        exceeds = height > max(before) if junction[0] == "low" else height < min(before)
        if part != come[place - 1][0] and not exceeds:
            breakers.append(height)
    return breakers


def may_come(plan, row, sources):
    """Tell whether the plan turns the people of these lines into the row (section of origins)."""
    waiting = {line: () for line in lines_in(plan)}
    for height, line in zip(row, sources):
        waiting[line] += (height,)
    return result_of(plan, waiting) == row


def sources_of(waiting):
    """Return a dict of the lines in which the people wait."""
    return {person: line for line, people in waiting for person in people}


def keeps_all_lines(waiting, result):
    """Tell whether the people of each line come in their order."""
    return all([
        tuple([person for person in result if person in people]) == people for _, people in waiting
    ])


def comparisons_of(plan, record):
    """Return the ascending tuple of the comparisons of the record, or None."""
    waiting, result = record
    if not keeps_all_lines(waiting, result):
        return None
    sources = sources_of(waiting)
    found = set()
    for _, junction in junctions_in(plan):
        come = split_people([(name, sources[name]) for name in result], junction)
        left = [[name for part, name in come if part == index] for index in range(len(junction[1]))]
        for index, name in come:
            left[index].remove(name)
            for other in left[:index] + left[index + 1:]:
                if other:
                    found.add((name, other[0]) if junction[0] == "low" else (other[0], name))
    return tuple(sorted(found))


def explains(plan, record, order):
    """Tell whether the order explains the record (point 15)."""
    waiting, result = record
    heights = {name: place for place, name in enumerate(order, 1)}
    crowd = {line: tuple([heights[name] for name in names]) for line, names in waiting}
    return result_of(plan, crowd) == tuple([heights[name] for name in result])


def orders_of(plan, records):
    """Return the ascending list of the orders that explain all records."""
    return [
        order for order in itertools.permutations(sorted(records[0][1]))
        if all([explains(plan, record, order) for record in records])
    ]


def shapes_of(plan):
    """Return the list of all plans of the same shape, those with low first (point 16)."""
    if isinstance(plan, str):
        return [plan]
    parts = list(itertools.product(*[shapes_of(part) for part in plan[1]]))
    return [(kind, part) for kind in ("low", "high") for part in parts]


def kinds_that_fit(plan, runs):
    """Return the tuple of (path, kinds that fit) for the junctions of the plan, or None."""
    if not all([keeps_all_lines(crowd, row) for crowd, row in runs]):
        return None
    return tuple([
        (path, tuple([kind for kind in ("high", "low") if fits_in_all(kind, junction, runs)]))
        for path, junction in sorted(junctions_in(plan), key=lambda pair: pair[0])
    ])


def fits_in_all(kind, junction, runs):
    """Tell whether the kind fits the junction in every run."""
    for crowd, row in runs:
        sources = sources_of(crowd)
        come = split_people([(height, sources[height]) for height in row], junction)
        rows = [[height for part, height in come if part == index] for index in range(len(junction[1]))]
        if turns_of(rows, kind)[0] != tuple([height for _, height in come]):
            return False
    return True
