"""The errors of the package: three bases, and one class for each kind of failure."""


class MeetError(ValueError):
    """A value that was passed is not of the form that is asked for."""


class InvalidRow(MeetError):
    """The element at this index spoils the row; None if it is no tuple or too long."""

    def __init__(self, index):
        self.index = index


class InvalidKind(MeetError):
    """The kind of a junction is neither low nor high."""

    def __init__(self, kind):
        self.kind = kind


class InvalidRows(MeetError):
    """The element at this index spoils the rows; None if they are spoilt as a whole."""

    def __init__(self, index):
        self.index = index


class InvalidNumber(MeetError):
    """There is no split with this number."""

    def __init__(self, number):
        self.number = number


class InvalidPlan(MeetError):
    """The value is not a plan."""

    def __init__(self, value):
        self.value = value


class InvalidNames(MeetError):
    """The element at this index spoils the names; None if they are spoilt as a whole."""

    def __init__(self, index):
        self.index = index


class InvalidText(MeetError):
    """The value is not the written form of a plan."""

    def __init__(self, text):
        self.text = text


class InvalidStep(MeetError):
    """The value is not a step that can be made in the plan."""

    def __init__(self, step):
        self.step = step


class InvalidSize(MeetError):
    """The value is not a number of lines that a plan may have."""

    def __init__(self, size):
        self.size = size


class InvalidTable(MeetError):
    """The element at this index spoils the table; None if it is spoilt as a whole."""

    def __init__(self, index):
        self.index = index


class InvalidCrowd(MeetError):
    """The element at this index spoils the crowd; None if it is no tuple or too long."""

    def __init__(self, index):
        self.index = index


class InvalidHeight(MeetError):
    """The value is not a height."""

    def __init__(self, height):
        self.height = height


class InvalidSources(MeetError):
    """The element at this index spoils the sources; None if they are spoilt as a whole."""

    def __init__(self, index):
        self.index = index


class InvalidKnown(MeetError):
    """The element at this index spoils the known lines; None if they are no tuple."""

    def __init__(self, index):
        self.index = index


class InvalidRecord(MeetError):
    """The element at this index spoils the records; None if they are spoilt as a whole."""

    def __init__(self, index):
        self.index = index


class InvalidRun(MeetError):
    """The element at this index spoils the runs; None if they are spoilt as a whole."""

    def __init__(self, index):
        self.index = index


class InvalidShare(MeetError):
    """The value is not a share."""

    def __init__(self, share):
        self.share = share


class InvalidLine(MeetError):
    """The value is not a line."""

    def __init__(self, line):
        self.line = line


class InvalidDeed(MeetError):
    """The element at this index spoils the deeds; None if they are no tuple."""

    def __init__(self, index):
        self.index = index


class InvalidCommand(MeetError):
    """The value is not a command of the console."""

    def __init__(self, command):
        self.command = command


class FindError(LookupError):
    """Something that is looked for is missing, taken or in use."""


class UnknownLine(FindError):
    """The plan does not have this line."""

    def __init__(self, line):
        self.line = line


class UnknownHeight(FindError):
    """Nobody of this height waits."""

    def __init__(self, height):
        self.height = height


class UnknownName(FindError):
    """The records do not have this name."""

    def __init__(self, name):
        self.name = name


class OtherLines(FindError):
    """The plans do not have the same lines."""


class OtherPeople(FindError):
    """The row does not have exactly the people of the crowd."""


class NotSame(FindError):
    """The plans have different kinds between these two lines."""

    def __init__(self, one, other):
        self.one = one
        self.other = other


class NoOrder(FindError):
    """No order explains all records."""


class LineTaken(FindError):
    """The plan has this line already."""

    def __init__(self, line):
        self.line = line


class HeightTaken(FindError):
    """There is a person of this height already."""

    def __init__(self, height):
        self.height = height


class LineInUse(FindError):
    """People wait in this line."""

    def __init__(self, line):
        self.line = line


class LastLine(FindError):
    """The line is the only one of its plan."""


class NobodyWaits(FindError):
    """Nobody waits who could go."""


class NothingToUndo(FindError):
    """The log has no deed to take back."""


class LimitError(ArithmeticError):
    """There are more of something than a limit allows."""


class TooManyPeople(LimitError):
    """There are too many people."""

    def __init__(self, count):
        self.count = count


class TooManyLines(LimitError):
    """There are too many lines."""

    def __init__(self, count):
        self.count = count


class TooManyDeeds(LimitError):
    """There are too many deeds."""

    def __init__(self, count):
        self.count = count
