"""Values of many kinds, for the places where any value may be passed, and plans, crowds and records."""

import random

from frontmeets.running import run_plan

NAMES = ("ann", "bob", "cy", "dora", "eve", "fay", "gil", "hal", "ida", "jo", "kim", "lee")


class Agreeing:
    """An object that says it is equal to everything."""

    def __eq__(self, other):
        return True

    def __hash__(self):
        return 1


def nested(depth):
    """Return a tuple that is nested this deep."""
    value = ()
    for _ in range(depth - 1):
        value = (value,)
    return value


def other_values():
    """Return values, made anew, of which none is a height, a row or a kind."""
    return [
        None, True, False, -1, 1000, 10 ** 59, -(10 ** 59), "", "Low", "low ", "lo", "a b\n~",
        b"", b"low", (True,), (0,), ("low",), ("low", "high"), (1, 1), (None, [1]), nested(20),
        [], [1], ["low"], [[1], [2]], {}, {"low": "high"}, {1: 2}, set(), {1, 2}, frozenset({1}),
        range(3), iter(()), object(), Agreeing(), len, int, ValueError, ValueError("low"),
    ]


def plain_values():
    """Return values, made anew, among which are heights, rows and kinds too."""
    return [0, 1, 7, 999, "low", "high", "a", (), (1,), (5, 1), ("a", (5, 1))] + other_values()


# Values of which none is a plan, although some look much like one.
NO_PLANS = (
    "", "A", "aB", "abcdefg", "a1", "1", "a b", "a ", " a", "a\n", "\n", "a-b", "low(a, b)", "~",
    b"a", ("a",), ("a", "b"), ("low",), ("low", "ab"), ("low", "a", "b"), ("low", ("a", "b"), ()),
    (("a", "b"), "low"), ("low", ()), ("low", ("a",)), ("low", (("low", ("a", "b")),)),
    ("low", ["a", "b"]), ["low", ("a", "b")], ("low", {"a": "b"}), ("low", {"a", "b"}),
    ("Low", ("a", "b")), ("middle", ("a", "b")), ("", ("a", "b")), (None, ("a", "b")),
    (True, ("a", "b")), (b"low", ("a", "b")), (("low",), ("a", "b")), (["low"], ("a", "b")),
    ("low", ("a", "a")), ("low", ("a", ("high", ("b", "a")))), ("low", ("a", 1)),
    ("high", (("low", ("a", "b")), ("low", ("c", ("high", ("d", "a")))))),
    ("low", ("a", None)), ("low", ("a", ())), ("low", ("a", "B")), ("low", ("a", "abcdefg")),
    ("low", ("a", ["b"])), ("low", ("a", ["high", ("b", "c")])), ("low", ("a", ("high", ["b", "c"]))),
    ("low", ("a", ("high", ("b",)))), ("low", ("a", ("high", ("b", "c"), "d"))),
    ("low", ("a", ("High", ("b", "c")))), ("low", ("a", "b", "c", "d", "e", "f", "g", "h", "i")),
    ("low", (("high", ("a", "b", "c", "d")), ("high", ("e", "f", "g", "h", "i")))),
)


def no_plans():
    """Return values, made anew, of which none is a plan."""
    return list(NO_PLANS) + [value for value in other_values() if value_is_no_line(value)]


def value_is_no_line(value):
    # This one of the other values happens to be a line.
    return not (isinstance(value, str) and value == "lo")


def left_comb(kinds):
    """Return the plan ((a b) c) .. whose junctions have these kinds, the innermost first."""
    plan = "a"
    for kind, line in zip(kinds, "bcdefgh"):
        plan = (kind, (plan, line))
    return plan


def right_comb(kinds):
    """Return the plan (a (b (c ..))) whose junctions have these kinds, the innermost first."""
    lines = "abcdefgh"[:len(kinds) + 1][::-1]
    plan = lines[0]
    for kind, line in zip(kinds, lines[1:]):
        plan = (kind, (line, plan))
    return plan


# Plans of one to eight lines, flat and not flat, also with lines that are called like kinds.
PLANS = (
    "a", "abcdef", "low", "high", ("low", ("a", "b")), ("high", ("b", "a")),
    ("low", ("high", "low")), ("high", ("low", ("low", ("a", "b")))),
    ("low", ("a", ("high", ("b", "c")))), ("low", ("a", ("low", ("b", "c")))),
    ("low", ("c", ("high", ("b", "a")))),
    ("high", (("low", ("d", "b")), "c", ("high", ("e", "a")))),
    ("low", ("h", "g", "f", "e", "d", "c", "b", "a")),
    ("high", ("a", "b", "c", "d", "e", "f", "g", "h")),
    ("low", (("low", (("low", ("c", "a")), "d")), ("low", ("b", ("low", ("f", "e")))))),
    left_comb(["low", "high", "low", "high", "low", "high", "low"]),
    right_comb(["high"] * 7),
    left_comb(["high"] * 7),
    ("high", (("low", (("high", ("h", "c")), ("high", ("g", "a")))),
              ("low", (("high", ("f", "b")), ("high", ("e", "d")))))),
)


def make_plan(chance, lines):
    """Return a plan of these lines, drawn from a `random.Random`."""
    if len(lines) == 1:
        return lines[0]
    mixed = chance.sample(list(lines), len(lines))
    cuts = sorted(chance.sample(range(1, len(lines)), chance.randint(1, min(3, len(lines) - 1))))
    groups = [mixed[start:end] for start, end in zip([0] + cuts, cuts + [len(lines)])]
    parts = tuple([make_plan(chance, group) for group in groups])
    return chance.choice(("low", "high")), parts


def draw_plans(count, sizes=range(1, 9)):
    """Return so many plans for each number of lines, the same ones each time."""
    chance = random.Random(11)
    letters = "abcdefgh"
    return [make_plan(chance, letters[:size]) for size in sizes for _ in range(count)]


def draw_crowd(chance, lines, most):
    """Return a crowd of some of these lines with at most so many people."""
    present = sorted(chance.sample(lines, chance.randint(0, len(lines))))
    people = chance.sample(range(1, 1000), chance.randint(0, most) if present else 0)
    cuts = sorted([chance.randint(0, len(people)) for _ in present[1:]])
    ends = cuts + [len(people)]
    return tuple([
        (line, tuple(people[start:end])) for line, start, end in zip(present, [0] + cuts, ends)
    ])


def run_record(plan, waiting, order):
    """Return the record of the plan with heights in this order."""
    heights = {name: place for place, name in enumerate(order, 1)}
    crowd = tuple([(line, tuple([heights[name] for name in names])) for line, names in waiting])
    return waiting, tuple([order[height - 1] for height in run_plan(plan, crowd)])


def draw_waiting(drawn, lines, names):
    """Return pairs of some of the lines and the names, mixed, as in a record."""
    present = sorted(drawn.sample(lines, drawn.randint(1, len(lines))))
    mixed = drawn.sample(names, len(names))
    cuts = sorted([drawn.randint(0, len(mixed)) for _ in present[1:]])
    return tuple([
        (line, tuple(mixed[start:end])) for line, start, end in zip(present, [0] + cuts, cuts + [len(mixed)])
    ])
