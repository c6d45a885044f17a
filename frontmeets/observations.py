"""What observed rows tell about the order of people whose heights are not known."""

from frontmeets.errors import InvalidRecord, NoOrder, UnknownName
from frontmeets.meeting import is_record
from frontmeets.plans import check_plan, find_comparisons, find_wrong_record, has_lines
from frontmeets.rows import is_few, is_word


def comparisons(plan, record):
    """Return the ascending tuple of the pairs (shorter, taller) that the junctions compare, or None."""
    check_plan(plan)
    if not is_record(record) or not has_lines(plan, record[0]):
        raise InvalidRecord(None)
    pairs = find_comparisons(plan, record)
    return None if pairs is None else tuple(sorted(set(pairs)))


def check_records(plan, records):
    """Raise an error if the values are not a plan and records of it with the same names."""
    check_plan(plan)
    if not is_few(records):
        raise InvalidRecord(None)
    index = find_wrong_record(plan, records)
    if index is not None:
        raise InvalidRecord(index)


def list_names(records):
    """Return the ascending tuple of the names of the records."""
    return tuple(sorted(records[0][1]))


def list_all_pairs(plan, records):
    """Return the list of the comparisons of all records, or None if one of them has none."""
    pairs = []
    for record in records:
        found = find_comparisons(plan, record)
        if found is None:
            return None
        pairs.extend(found)
    return pairs


def map_shorter(names, pairs):
    """Return a dict with the list of the names that must be before each name."""
    return {name: sorted(set([one for one, other in pairs if other == name])) for name in names}


def list_free(left, shorter):
    """Return the list of those of the names left before which no other one left must be."""
    return [name for name in left if not any([other in left for other in shorter[name]])]


def find_least_order(names, pairs):
    """Return the least order of the ascending names that agrees with the pairs, or None."""
    shorter = map_shorter(names, pairs)
    left = list(names)
    order = []
    while left:
        free = list_free(left, shorter)
        if not free:
            return None
        order.append(free[0])
        left.remove(free[0])
    return tuple(order)


def find_order(plan, records):
    """Return the least order that explains all records, or None if there is none."""
    check_records(plan, records)
    pairs = list_all_pairs(plan, records)
    return None if pairs is None else find_least_order(list_names(records), pairs)


def count_orders(plan, records):
    """Return the number of orders that explain all records."""
    check_records(plan, records)
    pairs = list_all_pairs(plan, records)
    if pairs is None:
        return 0
    names = list_names(records)
    shorter = map_shorter(names, pairs)
    # In how many ways all but the names left can be put first: this depends on no more than
    # which names are left, and there are at most 4096 such groups.
    counts = {names: 1}
    for step in names:
        longer = {}
        for left, count in counts.items():
            for name in list_free(left, shorter):
                rest = tuple([other for other in left if other != name])
                longer[rest] = longer.get(rest, 0) + count
        counts = longer
    return counts.get((), 0)


def check_name(names, value):
    """Raise UnknownName if the value is not one of the names."""
    if not is_word(value) or value not in names:
        raise UnknownName(value)


def is_shorter(plan, records, one, other):
    """Tell whether one name is before the other in every order that explains all records."""
    check_records(plan, records)
    names = list_names(records)
    check_name(names, one)
    check_name(names, other)
    pairs = list_all_pairs(plan, records)
    if pairs is None or find_least_order(names, pairs) is None:
        raise NoOrder()
    # Every order has `one` first if and only if none has `other` first.
    return one != other and find_least_order(names, pairs + [(other, one)]) is None
