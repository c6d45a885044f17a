"""Checks of the rules of LANGUAGE.md that can be read off the source in a few lines."""

import ast
import builtins
import pathlib
import re
import unittest
import warnings

PACKAGE = pathlib.Path(__file__).resolve().parent.parent / "frontmeets"

ALLOWED_BUILTINS = set(
    "len range enumerate zip min max sum abs sorted reversed int str bool bytes list tuple dict "
    "set frozenset isinstance ord repr any all divmod iter next super property staticmethod "
    "classmethod Exception ValueError TypeError KeyError IndexError LookupError "
    "ZeroDivisionError ArithmeticError OverflowError RuntimeError NotImplementedError "
    "AttributeError StopIteration NotImplemented".split()
)
BARRED_WORDS = re.compile(
    r"\b(type|typing|typing_extensions|enum|Enum|IntEnum|StrEnum|Flag|IntFlag|Generic|Protocol|"
    r"ABC|ABCMeta|namedtuple|NamedTuple|TypedDict|TYPE_CHECKING|abstractmethod)\b"
    r"|dataclass|overload|contextmanager"
)


def source_files():
    """Return a list of (name, text) of the files of the package."""
    return [(path.name, path.read_text("utf-8")) for path in sorted(PACKAGE.glob("*.py"))]


def nodes_of(text, *kinds):
    """Return the nodes of these kinds in the text."""
    return [node for node in ast.walk(ast.parse(text)) if isinstance(node, kinds)]


def names_in(text):
    """Return all names that the text binds, reads or asks an object for."""
    names = [node.id for node in nodes_of(text, ast.Name)]
    names += [node.attr for node in nodes_of(text, ast.Attribute)]
    names += [node.arg for node in nodes_of(text, ast.arg)]
    names += [node.name for node in nodes_of(text, ast.FunctionDef, ast.ClassDef)]
    return names


def bound_names(text):
    """Return the names of parameters, variables and functions that the text binds."""
    names = [node.arg for node in nodes_of(text, ast.arg)]
    names += [node.id for node in nodes_of(text, ast.Name) if isinstance(node.ctx, ast.Store)]
    return names + [node.name for node in nodes_of(text, ast.FunctionDef) if node.name[:2] != "__"]


class FormTest(unittest.TestCase):
    def test_the_package_is_one_folder_of_plain_files(self):
        others = [path.name for path in PACKAGE.iterdir() if path.suffix != ".py"]
        self.assertIn(others, [[], ["__pycache__"]])
        names = [name for name, _ in source_files()]
        self.assertIn("__init__.py", names)
        self.assertLessEqual(len(names), 100)
        for name in names:
            self.assertRegex(name, r"^([a-z][a-z0-9_]*|__init__|__main__)\.py$")

    def test_sizes_and_characters(self):
        for name, text in source_files():
            with self.subTest(name=name):
                self.assertEqual(re.findall(r"[^ -~\n]", text), [])
                lines = text.split("\n")
                self.assertLess(len(lines), 400)
                self.assertLessEqual(max([len(line) for line in lines]), 120)
                for node in nodes_of(text, ast.FunctionDef):
                    self.assertLessEqual(node.end_lineno - node.lineno + 1, 40, node.name)

    def test_imports(self):
        for name, text in source_files():
            with self.subTest(name=name):
                if name != "__main__.py":
                    self.assertEqual(nodes_of(text, ast.Import), [])
                for node in nodes_of(text, ast.ImportFrom):
                    self.assertEqual(node.level, 0)
                    self.assertRegex(node.module, r"^(frontmeets\.[a-z]+|__future__)$")
                    self.assertNotIn("*", [part.name for part in node.names])

    def test_names(self):
        for name, text in source_files():
            with self.subTest(name=name):
                private = [word for word in names_in(text) if re.match(r"_(?!_[a-z]+__$)", word)]
                self.assertEqual(private, [])
                read = {node.id for node in nodes_of(text, ast.Name)} & set(dir(builtins))
                if name == "__main__.py":
                    read -= {"print", "__name__"}
                self.assertEqual(sorted(read - ALLOWED_BUILTINS), [])
                self.assertIsNone(BARRED_WORDS.search(text))

    def test_no_name_is_bound_twice(self):
        for name, text in source_files():
            with self.subTest(name=name):
                top = ast.parse(text).body
                taken = [node.name for node in top if isinstance(node, ast.ClassDef)]
                taken += [part.name for node in nodes_of(text, ast.ImportFrom) for part in node.names]
                self.assertEqual(sorted(set(taken)), sorted(taken))
                bound = bound_names(text)
                self.assertEqual(sorted(set(bound) & set(taken)), [])
                self.assertEqual(sorted((set(bound) | set(taken)) & set(dir(builtins))), [])

    def test_modules_do_not_import_each_other_in_a_circle(self):
        wanted = {
            "frontmeets." + name[:-3]: [node.module for node in nodes_of(text, ast.ImportFrom)]
            for name, text in source_files()
        }
        while wanted:
            free = [name for name, modules in wanted.items() if not set(modules) & set(wanted)]
            self.assertNotEqual(free, [], wanted)
            for name in free:
                del wanted[name]

    def test_each_import_names_the_file_that_defines_the_name(self):
        defined = {}
        for name, text in source_files():
            top = ast.parse(text).body
            names = [node.name for node in top if isinstance(node, (ast.FunctionDef, ast.ClassDef))]
            names += [node.targets[0].id for node in top if isinstance(node, ast.Assign)]
            defined["frontmeets." + name[:-3]] = names
        for name, text in source_files():
            for node in nodes_of(text, ast.ImportFrom):
                for part in node.names:
                    self.assertIn(part.name, defined[node.module], name)
                    self.assertIsNone(part.asname)

    def test_each_import_is_used(self):
        for name, text in source_files():
            read = {node.id for node in nodes_of(text, ast.Name)}
            wanted = {part.name for node in nodes_of(text, ast.ImportFrom) for part in node.names}
            self.assertEqual(sorted(wanted - read), [], name)

    def test_no_name_is_a_method_and_an_attribute(self):
        methods = set()
        attributes = set()
        for name, text in source_files():
            for owner in nodes_of(text, ast.ClassDef):
                methods |= {node.name for node in owner.body if isinstance(node, ast.FunctionDef)}
            attributes |= {
                node.attr for node in nodes_of(text, ast.Attribute) if isinstance(node.ctx, ast.Store)
            }
        self.assertEqual(sorted(methods & attributes), [])

    def test_tables_at_module_level_are_not_passed_on(self):
        for name, text in source_files():
            tables = [
                node.targets[0].id for node in ast.parse(text).body
                if isinstance(node, ast.Assign) and isinstance(node.value, (ast.Dict, ast.List))
            ]
            read = [node for node in nodes_of(text, ast.Name) if node.id in tables and isinstance(node.ctx, ast.Load)]
            held = [node.value for node in nodes_of(text, ast.Subscript, ast.Attribute)]
            self.assertEqual([node.id for node in read if (node.lineno, node.col_offset)
                              not in [(part.lineno, part.col_offset) for part in held]], [], name)

    def test_errors_are_raised_on_the_spot_and_is_stands_beside_none(self):
        for name, text in source_files():
            with self.subTest(name=name):
                for node in nodes_of(text, ast.Raise):
                    self.assertIsInstance(node.exc, ast.Call)
                    self.assertIsInstance(node.exc.func, ast.Name)
                    self.assertEqual(node.exc.keywords, [])
                for node in nodes_of(text, ast.Compare):
                    for sign, part in zip(node.ops, node.comparators):
                        if isinstance(sign, (ast.Is, ast.IsNot)):
                            self.assertIn(ast.unparse(part), ("None", "True", "False"))

    def test_no_generators_and_no_calls_that_are_barred(self):
        for name, text in source_files():
            with self.subTest(name=name):
                # Generators are allowed with many conditions; lists serve as well.
                self.assertEqual(nodes_of(text, ast.GeneratorExp, ast.Yield, ast.YieldFrom), [])
                for node in nodes_of(text, ast.BinOp):
                    if isinstance(node.op, ast.Pow):
                        self.assertIsInstance(node.right, ast.Constant)

    def test_no_statement_or_value_outside_the_subset(self):
        barred = (ast.Global, ast.AsyncFunctionDef, ast.Await, ast.Div)
        for name, text in source_files():
            with self.subTest(name=name):
                self.assertEqual(nodes_of(text, *barred), [])
                constants = [node.value for node in nodes_of(text, ast.Constant)]
                self.assertEqual([x for x in constants if isinstance(x, (float, complex))], [])
                strings = [value for value in constants if isinstance(value, str)]
                self.assertEqual([value for value in strings if "%" in value], [])

    def test_no_warnings(self):
        for name, text in source_files():
            with self.subTest(name=name), warnings.catch_warnings():
                warnings.simplefilter("error")
                compile(text, name, "exec")


if __name__ == "__main__":
    unittest.main()
