"""One junction: rows that meet where the shortest or the tallest front goes first."""

from frontmeets.errors import InvalidRows
from frontmeets.limits import MOST_LINES, MOST_PEOPLE
from frontmeets.rows import check_kind, goes_first, is_row


def fits_beside(row, heights):
    """Tell whether the people of the row may wait beside people of these heights."""
    if len(heights) + len(row) > MOST_PEOPLE:
        return False
    return not any([height in heights for height in row])


def find_wrong_row(rows):
    """Return the index of the first element that is no row or does not fit beside those before, or None."""
    heights = []
    for index, row in enumerate(rows):
        if not is_row(row) or not fits_beside(row, heights):
            return index
        heights.extend(row)
    return None


def check_rows(rows):
    """Raise InvalidRows if the value is not a tuple of rows that can meet."""
    if not isinstance(rows, tuple) or len(rows) > MOST_LINES:
        raise InvalidRows(None)
    index = find_wrong_row(rows)
    if index is not None:
        raise InvalidRows(index)


def find_next_turn(rows, gone, kind):
    """Return the index of the row whose front goes next if `gone` counts who has gone, or None."""
    best = None
    for index, row in enumerate(rows):
        if gone[index] == len(row):
            continue
        if best is None or goes_first(row[gone[index]], rows[best][gone[best]], kind):
            best = index
    return best


def list_turns(rows, kind):
    """Return the list of (index of the row, height) of all people, in the order in which they go."""
    turns = []
    gone = [0 for row in rows]
    index = find_next_turn(rows, gone, kind)
    while index is not None:
        turns.append((index, rows[index][gone[index]]))
        gone[index] += 1
        index = find_next_turn(rows, gone, kind)
    return turns


def merge_rows(rows, kind):
    """Return the result of the rows, which are not checked."""
    return tuple([height for index, height in list_turns(rows, kind)])


def meet(rows, kind):
    """Return the row in which the people of the rows leave a junction of this kind."""
    check_rows(rows)
    check_kind(kind)
    return merge_rows(rows, kind)


def meet_turns(rows, kind):
    """Return the tuple of the indexes of the rows from which the people of the result come."""
    check_rows(rows)
    check_kind(kind)
    return tuple([index for index, height in list_turns(rows, kind)])
