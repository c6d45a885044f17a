"""Yards: a plan, the people who wait in its lines and those who have gone, and a log of all deeds."""

from frontmeets.errors import (
    FindError, InvalidDeed, InvalidLine, LimitError, LineInUse, LineTaken, MeetError, NobodyWaits,
    NothingToUndo, TooManyDeeds, TooManyLines, UnknownHeight,
)
from frontmeets.limits import MOST_DEEDS, MOST_LINES
from frontmeets.meeting import list_people
from frontmeets.notation import write_plan
from frontmeets.plans import check_line, check_plan, find_result, has_line, list_lines, without_line
from frontmeets.rows import begins_with_string, check_kind, is_height, is_word
from frontmeets.running import check_entry


def append_person(crowd, line, height):
    """Return the crowd in which a person of this height has entered at the end of the line."""
    waiting = dict(crowd)
    waiting[line] = waiting.get(line, ()) + (height,)
    return tuple(sorted(waiting.items()))


def remove_person(crowd, height):
    """Return the crowd without the person of this height, and without the line if it is empty then."""
    left = [(line, tuple([person for person in row if person != height])) for line, row in crowd]
    return tuple([(line, row) for line, row in left if row])


def do_enter(state, deed):
    """Return (None, the state after the deed "enter")."""
    plan, crowd, gone = state
    line, height = deed[1:]
    check_entry(plan, crowd, line, height)
    return None, (plan, append_person(crowd, line, height), gone)


def do_leave(state, deed):
    """Return (None, the state after the deed "leave")."""
    plan, crowd, gone = state
    height = deed[1]
    if not is_height(height) or height not in list_people(crowd):
        raise UnknownHeight(height)
    return None, (plan, remove_person(crowd, height), gone)


def do_go(state, deed):
    """Return (the height of the person who goes, the state after the deed "go")."""
    plan, crowd, gone = state
    if not crowd:
        raise NobodyWaits()
    height = find_result(plan, dict(crowd))[0]
    return height, (plan, remove_person(crowd, height), gone + (height,))


def do_open(state, deed):
    """Return (None, the state after the deed "open")."""
    plan, crowd, gone = state
    line, kind = deed[1:]
    if not is_word(line):
        raise InvalidLine(line)
    if has_line(plan, line):
        raise LineTaken(line)
    check_kind(kind)
    if len(list_lines(plan)) == MOST_LINES:
        raise TooManyLines(MOST_LINES)
    return None, ((kind, (plan, line)), crowd, gone)


def do_close(state, deed):
    """Return (None, the state after the deed "close")."""
    plan, crowd, gone = state
    line = deed[1]
    check_line(plan, line)
    if line in [source for source, row in crowd]:
        raise LineInUse(line)
    return None, (without_line(plan, line), crowd, gone)


ACTIONS = {"enter": do_enter, "leave": do_leave, "go": do_go, "open": do_open, "close": do_close}
SIZES = {"enter": 3, "leave": 2, "go": 1, "open": 3, "close": 2}


def is_deed(value):
    """Tell whether the value is a tuple of a word for a deed and as many values as the deed has."""
    return begins_with_string(value) and SIZES.get(value[0]) == len(value)


def check_deeds(deeds):
    """Raise InvalidDeed if the value is not a tuple of deeds."""
    if not isinstance(deeds, tuple):
        raise InvalidDeed(None)
    for index, deed in enumerate(deeds):
        if not is_deed(deed):
            raise InvalidDeed(index)


class Yard:
    """Keeps a plan, the people who wait in its lines, the people who have gone, and a log.

    A state is (plan, crowd without empty lines, people who have gone). The yard keeps the first
    state and the one after each deed, so that deeds can be taken back.
    """

    def __init__(self, plan):
        check_plan(plan)
        self.busy = False
        self.states = [(plan, (), ())]
        self.entries = []

    def perform(self, deed):
        """Perform one deed, append it to the log and return what it returns."""
        action = ACTIONS[deed[0]]
        answer, state = action(self.states[-1], deed)
        if len(self.entries) == MOST_DEEDS:
            raise TooManyDeeds(MOST_DEEDS)
        self.states.append(state)
        self.entries.append(deed)
        return answer

    def enter(self, line, height):
        """Let a person enter at the end of the line."""
        return self.perform(("enter", line, height))

    def leave(self, height):
        """Let the person of this height leave their line."""
        return self.perform(("leave", height))

    def go(self):
        """Let the next person go and return their height."""
        return self.perform(("go",))

    def open_line(self, line, kind):
        """Let the line meet all others at a new junction of this kind."""
        return self.perform(("open", line, kind))

    def close_line(self, line):
        """Remove the line, in which nobody waits, from the plan."""
        return self.perform(("close", line))

    def perform_all(self, deeds, watch):
        """Perform the deeds in order, each followed by the call of `watch`, and return their results."""
        answers = []
        for index, deed in enumerate(deeds):
            answers.append(self.perform(deed))
            if watch is not None:
                watch(self, index)
        return tuple(answers)

    def do_all(self, deeds, *, watch=None):
        """Perform all deeds or none, and return the tuple of what they return."""
        check_deeds(deeds)
        busy = self.busy
        states = self.states
        entries = self.entries
        answers = None
        # The deeds are added to copies, so that after an error the yard can take its lists back.
        self.states = list(states)
        self.entries = list(entries)
        self.busy = True
        try:
            answers = self.perform_all(deeds, watch)
        finally:
            self.busy = busy
            if answers is None:
                self.states = states
                self.entries = entries
        return answers

    def undo(self):
        """Take back the last deed of the log."""
        if not self.entries:
            raise NothingToUndo()
        self.states.pop()
        self.entries.pop()

    def plan(self):
        """Return the plan."""
        return self.states[-1][0]

    def crowd(self):
        """Return the crowd of the people who wait, without empty lines."""
        return self.states[-1][1]

    def gone(self):
        """Return the tuple of the heights of the people who have gone, in order."""
        return self.states[-1][2]

    def rest(self):
        """Return the row in which the people who wait would go."""
        return find_result(self.plan(), dict(self.crowd()))

    def log(self):
        """Return the tuple of the deeds."""
        return tuple(self.entries)

    def __len__(self):
        return len(list_people(self.crowd()))

    def __eq__(self, other):
        return isinstance(other, Yard) and self.states[-1] == other.states[-1]

    def __str__(self):
        return f"{write_plan(self.plan())}"

    def __repr__(self):
        return f"Yard({len(list_lines(self.plan()))} lines, {len(self)} people)"


def replay(plan, log):
    """Return a yard with this plan in which the deeds of the log were performed in order."""
    yard = Yard(plan)
    if not isinstance(log, tuple):
        raise InvalidDeed(None)
    for index, deed in enumerate(log):
        if not is_deed(deed):
            raise InvalidDeed(index)
        try:
            yard.perform(deed)
        except (MeetError, FindError, LimitError):
            raise InvalidDeed(index) from None
    return yard
