import inspect
import itertools
import unittest

from frontmeets import errors
from tests.samples import plain_values

BASES = {
    "MeetError": ValueError,
    "FindError": LookupError,
    "LimitError": ArithmeticError,
}

# For each base: its subclasses, with their attributes in order.
SUBCLASSES = {
    "MeetError": {
        "InvalidRow": ("index",),
        "InvalidKind": ("kind",),
        "InvalidRows": ("index",),
        "InvalidNumber": ("number",),
        "InvalidPlan": ("value",),
        "InvalidNames": ("index",),
        "InvalidText": ("text",),
        "InvalidStep": ("step",),
        "InvalidSize": ("size",),
        "InvalidTable": ("index",),
        "InvalidCrowd": ("index",),
        "InvalidHeight": ("height",),
        "InvalidSources": ("index",),
        "InvalidKnown": ("index",),
        "InvalidRecord": ("index",),
        "InvalidRun": ("index",),
        "InvalidShare": ("share",),
        "InvalidLine": ("line",),
        "InvalidDeed": ("index",),
        "InvalidCommand": ("command",),
    },
    "FindError": {
        "UnknownLine": ("line",),
        "UnknownHeight": ("height",),
        "UnknownName": ("name",),
        "OtherLines": (),
        "OtherPeople": (),
        "NotSame": ("one", "other"),
        "NoOrder": (),
        "LineTaken": ("line",),
        "HeightTaken": ("height",),
        "LineInUse": ("line",),
        "LastLine": (),
        "NobodyWaits": (),
        "NothingToUndo": (),
    },
    "LimitError": {
        "TooManyPeople": ("count",),
        "TooManyLines": ("count",),
        "TooManyDeeds": ("count",),
    },
}


def all_subclasses():
    """Return a list of (class, its base, its attributes)."""
    return [
        (getattr(errors, name), getattr(errors, base), attributes)
        for base, members in SUBCLASSES.items()
        for name, attributes in members.items()
    ]


def value_rows(count):
    """Return rows of so many values, in which each value stands in each place."""
    if count == 2:
        return list(itertools.product(plain_values(), repeat=2))
    return [(value,) * count for value in plain_values()]


class ErrorsTest(unittest.TestCase):
    def assert_holds(self, error, attributes, values):
        self.assertEqual(sorted(vars(error)), sorted(attributes))
        for attribute, value in zip(attributes, values):
            self.assertIs(getattr(error, attribute), value)

    def test_there_are_three_bases_and_36_subclasses(self):
        self.assertEqual(len(all_subclasses()), 36)
        classes = [name for name, value in vars(errors).items() if inspect.isclass(value)]
        expected = list(BASES) + [name for members in SUBCLASSES.values() for name in members]
        self.assertEqual(sorted(classes), sorted(expected))

    def test_each_class_is_defined_in_the_module(self):
        for name in list(BASES) + [name for members in SUBCLASSES.values() for name in members]:
            with self.subTest(name=name):
                self.assertEqual(getattr(errors, name).__module__, "frontmeets.errors")
                self.assertEqual(getattr(errors, name).__name__, name)

    def test_each_base_belongs_to_one_builtin_error_alone(self):
        for name, builtin in BASES.items():
            with self.subTest(name=name):
                self.assertEqual(getattr(errors, name).__bases__, (builtin,))
                self.assertEqual(vars(getattr(errors, name)()), {})

    def test_each_subclass_belongs_to_its_base_alone(self):
        every = [found[0] for found in all_subclasses()]
        every += [getattr(errors, name) for name in BASES] + list(BASES.values())
        for cls, base, attributes in all_subclasses():
            with self.subTest(cls=cls.__name__):
                self.assertEqual(cls.__bases__, (base,))
                error = cls(*[7 for _ in attributes])
                belongs = [other for other in every if isinstance(error, other)]
                self.assertEqual(belongs, [cls, base, BASES[base.__name__]])

    def test_each_error_can_be_raised_and_caught(self):
        for cls, base, attributes in all_subclasses():
            for caught in (cls, base, BASES[base.__name__]):
                with self.subTest(cls=cls.__name__, caught=caught.__name__):
                    with self.assertRaises(caught) as held:
                        raise cls(*[7 for _ in attributes])
                    self.assert_holds(held.exception, attributes, [7 for _ in attributes])

    def test_attributes_by_position(self):
        for cls, _, attributes in all_subclasses():
            with self.subTest(cls=cls.__name__):
                for values in value_rows(len(attributes)):
                    self.assert_holds(cls(*values), attributes, values)

    def test_attributes_by_name(self):
        for cls, _, attributes in all_subclasses():
            with self.subTest(cls=cls.__name__):
                for values in value_rows(len(attributes)):
                    named = dict(zip(attributes, values))
                    self.assert_holds(cls(**named), attributes, values)

    def test_two_attributes_by_name_in_the_other_order_and_mixed(self):
        self.assert_holds(errors.NotSame(other="b", one="a"), ("one", "other"), ("a", "b"))
        self.assert_holds(errors.NotSame("a", other="b"), ("one", "other"), ("a", "b"))

    def test_each_attribute_must_be_given(self):
        for cls, _, attributes in all_subclasses():
            if attributes:
                with self.subTest(cls=cls.__name__), self.assertRaises(TypeError):
                    cls(*[7 for _ in attributes[1:]])

    def test_a_value_stays_as_it_was(self):
        value = [3, [1], {"a": 2}]
        error = errors.InvalidRow(value)
        self.assertIs(error.index, value)
        self.assertEqual(value, [3, [1], {"a": 2}])


if __name__ == "__main__":
    unittest.main()
