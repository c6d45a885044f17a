"""Numbers, words, heights, rows, kinds, and the trains of a row."""

from frontmeets.errors import InvalidKind, InvalidRow
from frontmeets.limits import MOST_HEIGHT, MOST_PEOPLE, SMALL

LOW = "low"
HIGH = "high"
LETTERS = "abcdefghijklmnopqrstuvwxyz"
MOST_LETTERS = 6


def is_number(value):
    """Tell whether the value is an integer."""
    # bool is a subclass of int, but True is no integer here.
    return isinstance(value, int) and not isinstance(value, bool)


def is_below(value, limit):
    """Tell whether the value is an integer from 0 to below the limit, such as an index."""
    return is_number(value) and 0 <= value < limit


def is_word(value):
    """Tell whether the value is a string of one to six lowercase letters, as lines and names are."""
    if not isinstance(value, str) or not 1 <= len(value) <= MOST_LETTERS:
        return False
    return all([letter in LETTERS for letter in value])


def is_tuple_of(value, size):
    """Tell whether the value is a tuple with so many elements."""
    return isinstance(value, tuple) and len(value) == size


def begins_with_string(value):
    """Tell whether the value is a tuple of which the first element is a string."""
    return isinstance(value, tuple) and len(value) > 0 and isinstance(value[0], str)


def is_few(value):
    """Tell whether the value is a tuple with as many elements as there may be records or runs."""
    return isinstance(value, tuple) and 1 <= len(value) <= SMALL


def is_height(value):
    """Tell whether the value is a height."""
    return is_number(value) and 1 <= value <= MOST_HEIGHT


def is_kind(value):
    """Tell whether the value is a kind of junction."""
    return isinstance(value, str) and value in (LOW, HIGH)


def is_short_tuple(value):
    """Tell whether the value is a tuple with no more elements than a row may have."""
    return isinstance(value, tuple) and len(value) <= MOST_PEOPLE


def find_wrong_person(row):
    """Return the index of the first element that is no height or occurs earlier, or None."""
    for index, height in enumerate(row):
        if not is_height(height) or height in row[:index]:
            return index
    return None


def is_row(value):
    """Tell whether the value is a row; any value may be passed."""
    return is_short_tuple(value) and find_wrong_person(value) is None


def check_row(row):
    """Raise InvalidRow if the value is not a row."""
    if not is_short_tuple(row):
        raise InvalidRow(None)
    index = find_wrong_person(row)
    if index is not None:
        raise InvalidRow(index)


def check_kind(kind):
    """Raise InvalidKind if the value is not a kind."""
    if not is_kind(kind):
        raise InvalidKind(kind)


def goes_first(height, other, kind):
    """Tell whether a front of this height goes before the other front at a junction of this kind."""
    if kind == LOW:
        return height < other
    return height > other


def find_heads(row, kind):
    """Return the list of the indexes of the heads of the row."""
    heads = []
    for index, height in enumerate(row):
        # The last head is the extreme of all people so far, so it alone need be compared.
        if not heads or goes_first(row[heads[-1]], height, kind):
            heads.append(index)
    return heads


def split_trains(row, kind):
    """Return the tuple of the trains of the row, in order."""
    check_row(row)
    check_kind(kind)
    heads = find_heads(row, kind)
    ends = heads[1:] + [len(row)]
    return tuple([row[head:end] for head, end in zip(heads, ends)])
