"""Values of many kinds, for the places where any value may be passed."""


class Agreeing:
    """An object that says it is equal to everything."""

    def __eq__(self, other):
        return True

    def __hash__(self):
        return 1


def nested(depth):
    """Return a tuple that is nested this deep."""
    value = ()
    for _ in range(depth - 1):
        value = (value,)
    return value


def other_values():
    """Return values, made anew, of which none is a height, a row or a kind."""
    return [
        None, True, False, -1, 1000, 10 ** 59, -(10 ** 59), "", "Low", "low ", "lo", "a b\n~",
        b"", b"low", (True,), (0,), ("low",), ("low", "high"), (1, 1), (None, [1]), nested(20),
        [], [1], ["low"], [[1], [2]], {}, {"low": "high"}, {1: 2}, set(), {1, 2}, frozenset({1}),
        range(3), iter(()), object(), Agreeing(), len, int, ValueError, ValueError("low"),
    ]


def plain_values():
    """Return values, made anew, among which are heights, rows and kinds too."""
    return [0, 1, 7, 999, "low", "high", "a", (), (1,), (5, 1), ("a", (5, 1))] + other_values()
