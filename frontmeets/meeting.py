"""People who wait in rows or lines, and how rows meet at one junction."""

from frontmeets.errors import InvalidRows
from frontmeets.limits import MOST_LINES, MOST_PEOPLE, SMALL
from frontmeets.rows import (
    LOW, check_kind, find_heads, goes_first, is_row, is_tuple_of, is_word,
)


def fits_beside(row, heights):
    """Tell whether the people of the row may wait beside people of these heights."""
    if len(heights) + len(row) > MOST_PEOPLE:
        return False
    return not any([height in heights for height in row])


def find_wrong_row(rows):
    """Return the index of the first element that is no row or does not fit beside those before, or None."""
    heights = []
    for index, row in enumerate(rows):
        if not is_row(row) or not fits_beside(row, heights):
            return index
        heights.extend(row)
    return None


def check_rows(rows):
    """Raise InvalidRows if the value is not a tuple of rows that can meet."""
    if not isinstance(rows, tuple) or len(rows) > MOST_LINES:
        raise InvalidRows(None)
    index = find_wrong_row(rows)
    if index is not None:
        raise InvalidRows(index)


def find_next_turn(rows, gone, kind):
    """Return the index of the row whose front goes next if `gone` counts who has gone, or None."""
    best = None
    for index, row in enumerate(rows):
        if gone[index] == len(row):
            continue
        if best is None or goes_first(row[gone[index]], rows[best][gone[best]], kind):
            best = index
    return best


def list_turns(rows, kind):
    """Return the list of (index of the row, height) of all people, in the order in which they go."""
    turns = []
    gone = [0 for row in rows]
    index = find_next_turn(rows, gone, kind)
    while index is not None:
        turns.append((index, rows[index][gone[index]]))
        gone[index] += 1
        index = find_next_turn(rows, gone, kind)
    return turns


def merge_rows(rows, kind):
    """Return the result of the rows, which are not checked."""
    return tuple([height for index, height in list_turns(rows, kind)])


def meet(rows, kind):
    """Return the row in which the people of the rows leave a junction of this kind."""
    check_rows(rows)
    check_kind(kind)
    return merge_rows(rows, kind)


def meet_turns(rows, kind):
    """Return the tuple of the indexes of the rows from which the people of the result come."""
    check_rows(rows)
    check_kind(kind)
    return tuple([index for index, height in list_turns(rows, kind)])


def find_breakers(turns, kind):
    """Return the list of the people who cannot go in these turns at a junction of this kind.

    They come from another row than the person before them, although they are no heads.
    """
    heads = find_heads([height for index, height in turns], kind)
    breakers = []
    for place in range(1, len(turns)):
        if turns[place][0] != turns[place - 1][0] and place not in heads:
            breakers.append(turns[place][1])
    return breakers


def compare_turns(turns, kind):
    """Return the list of the pairs (shorter, taller) of people who are compared if they go in these turns."""
    pairs = []
    for place, (index, person) in enumerate(turns):
        fronts = {}
        for other, front in turns[place + 1:]:
            fronts.setdefault(other, front)
        for other in fronts:
            if other != index:
                pairs.append((person, fronts[other]) if kind == LOW else (fronts[other], person))
    return pairs


def has_crowd_form(value):
    """Tell whether the value is a tuple with no more elements than a crowd may have."""
    return isinstance(value, tuple) and len(value) <= MOST_LINES


def find_wrong_pair(crowd):
    """Return the index of the first element that cannot stand in a crowd behind those before, or None."""
    heights = []
    for index, pair in enumerate(crowd):
        if not is_tuple_of(pair, 2) or not is_word(pair[0]) or not is_row(pair[1]):
            return index
        if index > 0 and pair[0] <= crowd[index - 1][0]:
            return index
        if not fits_beside(pair[1], heights):
            return index
        heights.extend(pair[1])
    return None


def list_people(waiting):
    """Return the list of the people who wait in the lines, line by line."""
    return [person for line, people in waiting for person in people]


def has_people(crowd, row):
    """Tell whether the row has exactly the people of the crowd."""
    return sorted(list_people(crowd)) == sorted(row)


def is_run(value):
    """Tell whether the value is a run; any value may be passed."""
    if not is_tuple_of(value, 2) or not has_crowd_form(value[0]) or not is_row(value[1]):
        return False
    return find_wrong_pair(value[0]) is None and has_people(value[0], value[1])


def are_names(value):
    """Tell whether the value is a tuple of names."""
    return isinstance(value, tuple) and all([is_word(name) for name in value])


def is_names_pair(value):
    """Tell whether the value is a pair of a line and a tuple of names."""
    return is_tuple_of(value, 2) and is_word(value[0]) and are_names(value[1])


def is_record(value):
    """Tell whether the value is a record; any value may be passed."""
    if not is_tuple_of(value, 2) or not isinstance(value[0], tuple) or not are_names(value[1]):
        return False
    if not all([is_names_pair(pair) for pair in value[0]]):
        return False
    lines = [line for line, names in value[0]]
    names = list_people(value[0])
    if lines != sorted(set(lines)) or len(set(names)) != len(names):
        return False
    return 2 <= len(names) <= SMALL and sorted(names) == sorted(value[1])


def keeps_lines(waiting, result):
    """Tell whether the people of each line have the same order in the result as in the line."""
    for line, people in waiting:
        if [person for person in result if person in people] != list(people):
            return False
    return True


def find_sources(waiting, result):
    """Return the list of (line, person) of all people of the result, in order."""
    sources = {person: line for line, people in waiting for person in people}
    return [(sources[person], person) for person in result]
