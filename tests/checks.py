"""What the test cases of the modules have in common."""

import copy
import inspect
import unittest


class Case(unittest.TestCase):
    """A test case that knows how errors and calls of the interface are checked."""

    def assert_error(self, error, attributes, function, *values):
        """Check that the call raises just this error with just these attributes."""
        with self.assertRaises(error) as held:
            function(*values)
        self.assertIs(type(held.exception), error)
        self.assertEqual(sorted(vars(held.exception)), sorted(attributes))
        for name, value in attributes.items():
            found = getattr(held.exception, name)
            self.assertIs(type(found), type(value))
            if isinstance(value, int):
                self.assertEqual(found, value)
            else:
                self.assertIs(found, value)

    def assert_interface(self, function, module, names, **by_name):
        """Check where the function is defined, its parameters and those passed by name only."""
        self.assertTrue(inspect.isfunction(function))
        self.assertEqual(function.__module__, module)
        parameters = list(inspect.signature(function).parameters.values())
        self.assertEqual([parameter.name for parameter in parameters], names + list(by_name))
        for parameter in parameters[:len(names)]:
            self.assertIs(parameter.kind, inspect.Parameter.POSITIONAL_OR_KEYWORD)
            self.assertIs(parameter.default, inspect.Parameter.empty)
        for parameter in parameters[len(names):]:
            self.assertIs(parameter.kind, inspect.Parameter.KEYWORD_ONLY)
            self.assertEqual(parameter.default, by_name[parameter.name])

    def assert_calls(self, function, names, values, result):
        """Check the call by position, by name and mixed; what is passed stays as it was."""
        before = copy.deepcopy(values)
        named = dict(zip(names, values))
        backwards = dict(list(named.items())[::-1])
        rest = dict(list(named.items())[1:])
        for found in (function(*values), function(*values), function(**named),
                      function(**backwards), function(values[0], **rest)):
            self.assertEqual(found, result)
            self.assert_plain(found)
            self.assertIs(type(found), type(result))
        self.assertEqual(values, before)

    def assert_plain(self, value):
        """Check that the value is made of tuples, strings, integers, booleans and None alone."""
        self.assertIn(type(value), (tuple, str, int, bool, type(None)))
        if type(value) is tuple:
            for element in value:
                self.assert_plain(element)
