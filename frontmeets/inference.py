"""The kinds of junctions that explain observed rows, and exact chances for random kinds."""

from frontmeets.errors import InvalidRun, InvalidShare, OtherPeople
from frontmeets.meeting import has_people, keeps_lines
from frontmeets.plans import check_plan, find_part, find_wrong_run, fits, list_junctions, put_part
from frontmeets.rows import HIGH, LOW, check_row, is_few, is_number, is_tuple_of
from frontmeets.running import check_crowd

MOST_BOTTOM = 1000


def check_runs(plan, runs):
    """Raise an error if the values are not a plan and runs of it."""
    check_plan(plan)
    if not is_few(runs):
        raise InvalidRun(None)
    index = find_wrong_run(plan, runs)
    if index is not None:
        raise InvalidRun(index)


def list_kinds(plan, runs):
    """Return the tuple of (path, kinds that fit) of all junctions, or None if a line has another order."""
    if not all([keeps_lines(crowd, row) for crowd, row in runs]):
        return None
    found = []
    for path, junction in list_junctions(plan):
        kinds = [kind for kind in (HIGH, LOW) if all([fits(junction, kind, run) for run in runs])]
        found.append((path, tuple(kinds)))
    return tuple(found)


def possible_kinds(plan, runs):
    """Return the tuple of (path, kinds that fit) of all junctions, or None if a line has another order."""
    check_runs(plan, runs)
    return list_kinds(plan, runs)


def find_kinds(plan, runs):
    """Return the plan of this shape that explains all runs, low where both kinds fit, or None."""
    found = possible_kinds(plan, runs)
    if found is None:
        return None
    changed = plan
    for path, kinds in found:
        if not kinds:
            return None
        kind = LOW if LOW in kinds else HIGH
        changed = put_part(changed, path, (kind, find_part(changed, path)[1]))
    return changed


def count_kinds(plan, runs):
    """Return the number of plans of this shape that explain all runs."""
    found = possible_kinds(plan, runs)
    if found is None:
        return 0
    count = 1
    for path, kinds in found:
        count *= len(kinds)
    return count


def have_common_factor(one, other):
    """Tell whether some number greater than 1 divides both, of which the other is greater than 0."""
    while other > 0:
        one, other = other, one % other
    return one > 1


def is_share(value):
    """Tell whether the value is a share."""
    if not is_tuple_of(value, 2) or not is_number(value[0]) or not is_number(value[1]):
        return False
    top, bottom = value
    return 1 <= top < bottom <= MOST_BOTTOM and not have_common_factor(bottom, top)


def chance(plan, share, crowd, row):
    """Return the chance that the plan turns the crowd into the row if its kinds are drawn."""
    check_plan(plan)
    if not is_share(share):
        raise InvalidShare(share)
    check_crowd(plan, crowd)
    check_row(row)
    if not has_people(crowd, row):
        raise OtherPeople()
    found = list_kinds(plan, ((crowd, row),))
    if found is None:
        return 0, 1
    # The bottom of the share has no factor in common with its top, nor with what is left for the
    # kind high: so the product is in lowest terms.
    top = 1
    bottom = 1
    for path, kinds in found:
        if not kinds:
            return 0, 1
        if len(kinds) == 1:
            top *= share[0] if LOW in kinds else share[1] - share[0]
            bottom *= share[1]
    return top, bottom
