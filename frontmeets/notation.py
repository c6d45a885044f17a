"""The written form of plans."""

from frontmeets.errors import InvalidText
from frontmeets.limits import MOST_LINES
from frontmeets.plans import check_plan, is_plan
from frontmeets.rows import LETTERS


def write_plan(plan):
    """Return the written form of the plan, which is not checked."""
    if isinstance(plan, str):
        return plan
    kind, parts = plan
    return kind + "(" + ", ".join([write_plan(part) for part in parts]) + ")"


def format_plan(plan):
    """Return the written form of the plan."""
    check_plan(plan)
    return write_plan(plan)


def skip_letters(text, start):
    """Return the index of the first character from `start` on that is no lowercase letter."""
    end = start
    while end < len(text) and text[end] in LETTERS:
        end += 1
    return end


def read_part(text, start, depth):
    """Return what is written from `start` on, so many junctions deep, and the index behind it."""
    end = skip_letters(text, start)
    word = text[start:end]
    if text[end:end + 1] != "(":
        return word, end
    # No plan is so deep, while a long text could go deeper than calls may.
    if depth == MOST_LINES:
        raise InvalidText(text)
    parts, end = read_parts(text, end + 1, depth + 1)
    return (word, parts), end


def read_parts(text, start, depth):
    """Return the parts that are written from `start` on, and the index behind their parenthesis."""
    part, end = read_part(text, start, depth)
    parts = [part]
    while text[end:end + 2] == ", ":
        part, end = read_part(text, end + 2, depth)
        parts.append(part)
    if text[end:end + 1] != ")":
        raise InvalidText(text)
    return tuple(parts), end + 1


def parse_plan(text):
    """Return the plan whose written form is the text."""
    if not isinstance(text, str):
        raise InvalidText(text)
    plan, end = read_part(text, 0, 0)
    # Whatever is read may still be no plan: here its words are told to be lines and kinds.
    if end != len(text) or not is_plan(plan):
        raise InvalidText(text)
    return plan
