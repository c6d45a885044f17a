"""Claims about plans, tables and rows, each with a paper that the checker accepts."""

from frontmeets.equality import derivation, difference
from frontmeets.inference import find_kinds, possible_kinds
from frontmeets.meeting import keeps_lines
from frontmeets.observations import find_order
from frontmeets.origins import find_fault
from frontmeets.plans import find_comparisons, find_part, fits
from frontmeets.rows import HIGH, LOW
from frontmeets.tables import find_four, find_plan


def effect_paper(plan, other):
    """Return the claim that the plans have the same effect, or not, with its paper."""
    pair = difference(plan, other)
    if pair is None:
        return ("same", plan, other), derivation(plan, other)
    return ("different", plan, other), pair


def table_paper(table):
    """Return the claim that some plan fits the table, or none, with its paper."""
    plan = find_plan(table)
    if plan is None:
        return ("no plan", table), find_four(table)
    return ("plan", table), plan


def source_paper(plan, row, sources):
    """Return the claim that the people may have come from these lines, or not, with its paper."""
    fault = find_fault(plan, row, sources)
    if fault is None:
        return ("possible", plan, row, sources), None
    return ("impossible", plan, row, sources), fault


def find_broken_line(pairs):
    """Return the index of the first (waiting, result) in which a line has another order, or None."""
    for index, (waiting, result) in enumerate(pairs):
        if not keeps_lines(waiting, result):
            return index
    return None


def list_triples(plan, records):
    """Return the list of (shorter, taller, index of the record) of all comparisons of the records."""
    return [
        pair + (index,) for index, record in enumerate(records) for pair in find_comparisons(plan, record)
    ]


def keep_circles(triples):
    """Return those of the triples whose `shorter` is the `taller` of another one that is kept."""
    kept = triples
    count = None
    while count != len(kept):
        count = len(kept)
        tall = [taller for shorter, taller, index in kept]
        kept = [triple for triple in kept if triple[0] in tall]
    return kept


def find_cycle(triples):
    """Return a cycle of triples, if no order agrees with all of them."""
    kept = keep_circles(triples)
    # From the taller to the shorter ones, the way goes on until it meets itself.
    way = [kept[0]]
    while way[-1][0] not in [taller for shorter, taller, index in way]:
        way.append([triple for triple in kept if triple[1] == way[-1][0]][0])
    start = [taller for shorter, taller, index in way].index(way[-1][0])
    return tuple(way[start:][::-1])


def order_paper(plan, records):
    """Return the claim that some order explains all records, or none, with its paper."""
    order = find_order(plan, records)
    if order is not None:
        return ("order", plan, records), order
    claim = ("no order", plan, records)
    index = find_broken_line(records)
    if index is not None:
        return claim, ("line", index)
    return claim, ("cycle", find_cycle(list_triples(plan, records)))


def find_misfit(junction, kind, runs):
    """Return the index of the first run in which the kind does not fit the junction."""
    return [fits(junction, kind, run) for run in runs].index(False)


def find_junction_paper(plan, runs, found):
    """Return the paper of the first junction that no kind fits, if those that fit are found."""
    path = [path for path, kinds in found if not kinds][0]
    junction = find_part(plan, path)
    return "junction", path, find_misfit(junction, LOW, runs), find_misfit(junction, HIGH, runs)


def kind_paper(plan, runs):
    """Return the claim that some plan of this shape explains all runs, or none, with its paper."""
    changed = find_kinds(plan, runs)
    if changed is not None:
        return ("kinds", plan, runs), changed
    claim = ("no kinds", plan, runs)
    found = possible_kinds(plan, runs)
    if found is None:
        return claim, ("line", find_broken_line(runs))
    return claim, find_junction_paper(plan, runs, found)
