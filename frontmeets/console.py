"""A console: a yard that is used by commands in words."""

from frontmeets.equality import same_effect
from frontmeets.errors import InvalidCommand, InvalidText
from frontmeets.notation import parse_plan
from frontmeets.plans import check_line, kind_between
from frontmeets.rows import is_kind, is_word
from frontmeets.yard import Yard, is_deed

DIGITS = "0123456789"
MOST_DIGITS = 30


def is_decimal(word):
    """Tell whether the word is a decimal number as it stands in commands."""
    if not 1 <= len(word) <= MOST_DIGITS or not all([letter in DIGITS for letter in word]):
        return False
    return word == "0" or word[0] != "0"


def write_heights(row):
    """Return the heights, separated by spaces, or `none`."""
    return " ".join([str(height) for height in row]) if row else "none"


def read_value(form, word):
    """Return the value of this form for which the word stands, or None."""
    if form == "line":
        return word if is_word(word) else None
    if form == "kind":
        return word if is_kind(word) else None
    return int(word) if is_decimal(word) else None


def read_plan(command):
    """Return the plan that is written behind the first word of the command."""
    try:
        return parse_plan(command.partition(" ")[2])
    except InvalidText:
        raise InvalidCommand(command) from None


FORMS = {
    "enter": ("line", "height"), "leave": ("height",), "go": (), "open": ("line", "kind"),
    "close": ("line",), "undo": (), "rest": (), "gone": (), "line": ("line",), "plan": (),
    "deeds": (), "kind": ("line", "line"),
}


def read_command(command):
    """Return the tuple of the first word of the command and its values."""
    if not isinstance(command, str):
        raise InvalidCommand(command)
    words = command.split(" ")
    if words[0] == "same":
        return "same", read_plan(command)
    forms = FORMS.get(words[0])
    if forms is None or len(words) != len(forms) + 1:
        raise InvalidCommand(command)
    values = [read_value(form, word) for form, word in zip(forms, words[1:])]
    if None in values:
        raise InvalidCommand(command)
    return (words[0],) + tuple(values)


def answer_undo(yard, words):
    """Take back the last deed of the yard."""
    yard.undo()
    return "ok"


def answer_rest(yard, words):
    """Return the heights of the people who wait, in the order in which they would go."""
    return write_heights(yard.rest())


def answer_gone(yard, words):
    """Return the heights of the people who have gone."""
    return write_heights(yard.gone())


def answer_line(yard, words):
    """Return the heights of the people who wait in the line."""
    check_line(yard.plan(), words[1])
    return write_heights(dict(yard.crowd()).get(words[1], ()))


def answer_plan(yard, words):
    """Return the written form of the plan."""
    return str(yard)


def answer_deeds(yard, words):
    """Return the number of deeds in the log."""
    return str(len(yard.log()))


def answer_kind(yard, words):
    """Return the kind between the two lines."""
    return kind_between(yard.plan(), words[1], words[2])


def answer_same(yard, words):
    """Tell whether the plan has the same effect as that of the yard."""
    return "yes" if same_effect(words[1], yard.plan()) else "no"


ANSWERS = {
    "undo": answer_undo, "rest": answer_rest, "gone": answer_gone, "line": answer_line,
    "plan": answer_plan, "deeds": answer_deeds, "kind": answer_kind, "same": answer_same,
}


class Console:
    """Keeps a yard and performs the commands that are said to it."""

    def __init__(self, text):
        self.yard = Yard(parse_plan(text))

    def say(self, command):
        """Perform the command and return its answer."""
        words = read_command(command)
        if is_deed(words):
            height = self.yard.perform(words)
            return "ok" if height is None else str(height)
        action = ANSWERS[words[0]]
        return action(self.yard, words)
