"""The lines from which the people of a row may have come."""

from frontmeets.errors import InvalidKnown, InvalidSources, TooManyPeople
from frontmeets.limits import SMALL
from frontmeets.meeting import find_breakers
from frontmeets.plans import check_plan, find_turns, has_line, lines_of, list_junctions, make_flat
from frontmeets.rows import LOW, check_row, find_heads, is_height, is_tuple_of


def check_sources(plan, row, sources):
    """Raise an error if the values are not a plan, a row and a line of the plan for each person."""
    check_plan(plan)
    check_row(row)
    if not is_tuple_of(sources, len(row)):
        raise InvalidSources(None)
    for index, line in enumerate(sources):
        if not has_line(plan, line):
            raise InvalidSources(index)


def find_fault(plan, row, sources):
    """Return (path, height) of the first person who cannot have come from their line, or None."""
    check_sources(plan, row, sources)
    people = list(zip(sources, row))
    paths = {}
    for path, junction in list_junctions(plan):
        for height in find_breakers(find_turns(junction, people), junction[0]):
            # A junction is listed before those inside it, so the outermost path is the one that stays.
            paths.setdefault(height, path)
    for height in row:
        if height in paths:
            return paths[height], height
    return None


def is_possible(plan, row, sources):
    """Tell whether the people of the row may have come from these lines."""
    return find_fault(plan, row, sources) is None


def is_known_pair(plan, row, value):
    """Tell whether the value is a pair of a person of the row and a line of the plan."""
    if not is_tuple_of(value, 2) or not is_height(value[0]):
        return False
    return value[0] in row and has_line(plan, value[1])


def check_known(plan, row, known):
    """Raise an error if the values are not a plan, a small row and known lines of its people."""
    check_plan(plan)
    check_row(row)
    if len(row) > SMALL:
        raise TooManyPeople(len(row))
    if not isinstance(known, tuple):
        raise InvalidKnown(None)
    for index, pair in enumerate(known):
        if not is_known_pair(plan, row, pair) or (index > 0 and pair[0] <= known[index - 1][0]):
            raise InvalidKnown(index)


def add_node(plan, nodes):
    """Append the nodes of the flat plan to the list and return the number of its outermost one.

    A node is (kind, lines, left, right): a junction of these lines alone, in ascending order, or,
    if there are none, a junction of the two nodes with the numbers `left` and `right`.
    """
    if isinstance(plan, str):
        nodes.append((LOW, (plan,), None, None))
        return len(nodes) - 1
    kind, parts = plan
    numbers = [add_node(part, nodes) for part in parts if not isinstance(part, str)]
    lines = tuple([part for part in parts if isinstance(part, str)])
    if lines:
        nodes.append((kind, lines, None, None))
        numbers.append(len(nodes) - 1)
    joined = numbers[0]
    for number in numbers[1:]:
        nodes.append((kind, (), joined, number))
        joined = len(nodes) - 1
    return joined


def list_worths(count, base):
    """Return the list of what a digit is worth at each place of a number with so many digits."""
    worths = [1] * count
    for place in range(count - 1, 0, -1):
        worths[place - 1] = worths[place] * base
    return worths


class Ways:
    """The ways in which the people of a row may have come through the nodes of a plan.

    A group of people is a number whose bits stand for the places in the row. Sources are a number
    with one digit for each place, the index of the line. So those of two groups can be added, and
    the least number is the least tuple.
    """

    def __init__(self, plan, row, known):
        self.row = row
        self.lines = lines_of(plan)
        self.worths = list_worths(len(row), len(self.lines))
        lines = dict(known)
        self.allowed = {
            line: sum([1 << place for place, height in enumerate(row) if lines.get(height, line) == line])
            for line in self.lines
        }
        self.nodes = []
        self.outermost = add_node(make_flat(plan), self.nodes)
        self.found = [{} for node in self.nodes]

    def list_trains(self, group, kind):
        """Return the list of the trains of the group, each a list of places."""
        places = [place for place in range(len(self.row)) if group >> place & 1]
        heads = find_heads([self.row[place] for place in places], kind)
        ends = heads[1:] + [len(places)]
        return [places[head:end] for head, end in zip(heads, ends)]

    def count_lines(self, lines, trains):
        """Return (number of ways, least sources) for trains that each come from one of the lines."""
        count = 1
        least = 0
        for train in trains:
            group = sum([1 << place for place in train])
            fitting = [line for line in lines if self.allowed[line] & group == group]
            if not fitting:
                return 0, None
            count *= len(fitting)
            least += self.lines.index(fitting[0]) * sum([self.worths[place] for place in train])
        return count, least

    def count_halves(self, left, right, trains):
        """Return (number of ways, least sources) for trains that each come from one of two nodes."""
        unions = [0]
        for train in trains:
            group = sum([1 << place for place in train])
            unions.extend([union + group for union in unions])
        total = 0
        best = None
        for union in unions:
            count, least = self.count_node(left, union)
            if count == 0:
                continue
            other_count, other_least = self.count_node(right, unions[-1] - union)
            if other_count == 0:
                continue
            total += count * other_count
            if best is None or least + other_least < best:
                best = least + other_least
        return total, best

    def count_node(self, number, group):
        """Return (number of ways, least sources) for the group to come through the node."""
        ways = self.found[number].get(group)
        if ways is None:
            kind, lines, left, right = self.nodes[number]
            trains = self.list_trains(group, kind)
            if lines:
                ways = self.count_lines(lines, trains)
            else:
                ways = self.count_halves(left, right, trains)
            self.found[number][group] = ways
        return ways

    def count_all(self):
        """Return (number of ways, least sources) for all people of the row."""
        everybody = sum([1 << place for place in range(len(self.row))])
        return self.count_node(self.outermost, everybody)

    def read_sources(self, number):
        """Return the tuple of the lines for which the number stands."""
        size = len(self.lines)
        return tuple([self.lines[number // worth % size] for worth in self.worths])


def count_sources(plan, row, *, known=()):
    """Return the number of tuples of lines from which the people may have come, as far as known."""
    check_known(plan, row, known)
    return Ways(plan, row, known).count_all()[0]


def first_sources(plan, row, *, known=()):
    """Return the least tuple of lines from which the people may have come, or None."""
    check_known(plan, row, known)
    ways = Ways(plan, row, known)
    least = ways.count_all()[1]
    return None if least is None else ways.read_sources(least)
