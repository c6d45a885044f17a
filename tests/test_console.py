import inspect
import unittest

from frontmeets.console import Console
from frontmeets.errors import (
    HeightTaken, InvalidCommand, InvalidHeight, InvalidText, LastLine, LineInUse, LineTaken,
    NobodyWaits, NothingToUndo, OtherLines, TooManyDeeds, TooManyLines, TooManyPeople,
    UnknownHeight, UnknownLine,
)
from frontmeets.notation import format_plan
from tests.checks import Case
from tests.definitions import kinds_in, lines_in
from tests.samples import PLANS, left_comb, other_values

TELLING = ("rest", "gone", "plan", "deeds", "line a", "line b")


def say_all(console, *commands):
    """Return the list of the answers to the commands."""
    return [console.say(command) for command in commands]


def three():
    """Return a console whose yard is the one of the document's examples."""
    console = Console("low(a, b)")
    say_all(console, "enter a 5", "enter b 3", "enter a 1")
    return console


class ConsoleCase(Case):
    def assert_refused(self, console, command, error, attributes):
        """Check that the command raises just this error and changes nothing."""
        before = say_all(console, "rest", "gone", "plan", "deeds")
        with self.assertRaises(error) as held:
            console.say(command)
        self.assertIs(type(held.exception), error)
        self.assertEqual(vars(held.exception), attributes)
        self.assertEqual(say_all(console, "rest", "gone", "plan", "deeds"), before)

    def assert_no_command(self, command):
        """Check that the value is no command, whatever the yard is."""
        for console in (Console("low(a, b)"), three(), Console("a")):
            before = say_all(console, "rest", "gone", "plan", "deeds")
            self.assert_error(InvalidCommand, {"command": command}, console.say, command)
            self.assertEqual(say_all(console, "rest", "gone", "plan", "deeds"), before)


class NewConsoleTest(ConsoleCase):
    def test_the_interface(self):
        self.assertTrue(inspect.isclass(Console))
        self.assertEqual(Console.__module__, "frontmeets.console")
        self.assertEqual(list(inspect.signature(Console).parameters), ["text"])
        self.assertEqual(list(inspect.signature(vars(Console)["say"]).parameters)[1:], ["command"])

    def test_a_new_console(self):
        for plan in PLANS:
            text = format_plan(plan)
            for console in [Console(text), Console(text=text)]:
                self.assertEqual(say_all(console, "plan", "rest", "gone", "deeds"), [text, "none", "none", "0"])

    def test_invalid_texts(self):
        for text in other_values() + ["low(a,b)", "low(a, b) ", " a", "", "low(a)", "A", "low(a, a)", "say", ("low", ("a", "b"))]:
            if text not in ("lo", "say"):
                self.assert_error(InvalidText, {"text": text}, Console, text)

    def test_two_consoles_do_not_change_each_other(self):
        console = three()
        other = Console("low(a, b)")
        self.assertEqual(say_all(other, *TELLING), ["none", "none", "low(a, b)", "0", "none", "none"])
        before = say_all(console, *TELLING)
        say_all(other, "enter a 7", "open c high", "go", "undo", "undo", "undo")
        self.assertEqual(say_all(console, *TELLING), before)


class CommandsTest(ConsoleCase):
    def test_the_examples_of_the_document(self):
        console = Console("low(a, b)")
        first = say_all(console, "enter a 5", "enter b 3", "rest", "go", "line b")
        self.assertEqual(first, ["ok", "ok", "3 5", "3", "none"])
        self.assertEqual(say_all(console, "kind a b", "same low(b, a)"), ["low", "yes"])
        self.assert_error(InvalidCommand, {"command": "enter a 05"}, Console("low(a, b)").say, "enter a 05")

    def test_each_command_and_its_answer(self):
        console = three()
        self.assertEqual(say_all(console, *TELLING), ["3 5 1", "none", "low(a, b)", "3", "5 1", "3"])
        self.assertEqual(say_all(console, "go", "rest", "gone", "deeds"), ["3", "5 1", "3", "4"])
        self.assertEqual(say_all(console, "open c high", "plan", "deeds"), ["ok", "high(low(a, b), c)", "5"])
        self.assertEqual(say_all(console, "enter c 999", "line c", "rest"), ["ok", "999", "999 5 1"])
        self.assertEqual(say_all(console, "close b", "plan"), ["ok", "high(a, c)"])
        self.assertEqual(say_all(console, "leave 5", "line a", "rest"), ["ok", "1", "999 1"])
        self.assertEqual(say_all(console, "go", "go", "gone", "rest"), ["999", "1", "3 999 1", "none"])
        self.assertEqual(say_all(console, "undo", "gone", "rest", "deeds"), ["ok", "3 999", "1", "9"])
        self.assertEqual(say_all(console, "kind a c", "kind c a"), ["high", "high"])
        self.assertEqual(say_all(console, "same high(c, a)", "same low(a, c)"), ["yes", "no"])
        self.assertEqual(console.say(command="gone"), "3 999")

    def test_answers_are_strings(self):
        console = three()
        for command in TELLING + ("kind a b", "same low(a, b)", "enter b 9", "leave 9", "go", "open c low",
                                  "close c", "undo"):
            self.assertIs(type(console.say(command)), str)

    def test_lines_that_are_called_like_commands(self):
        console = Console("high(low, low(go, line))")
        self.assertEqual(say_all(console, "enter low 5", "enter go 7", "enter line 6"), ["ok"] * 3)
        self.assertEqual(say_all(console, "line line", "line go", "rest", "go"), ["6", "7", "6 7 5", "6"])
        self.assertEqual(say_all(console, "kind low go", "kind go line"), ["high", "low"])
        self.assertEqual(say_all(console, "open high high", "plan", "close high"),
                         ["ok", "high(high(low, low(go, line)), high)", "ok"])
        self.assertEqual(say_all(console, "same high(low(line, go), low)", "open same low"), ["yes", "ok"])

    def test_as_many_undos_as_deeds(self):
        console = three()
        say_all(console, "go", "open c low", "enter c 2", "leave 5", "close b")
        for place in range(8, 0, -1):
            self.assertEqual(say_all(console, "deeds", "undo"), [str(place), "ok"])
        self.assertEqual(say_all(console, *TELLING), ["none", "none", "low(a, b)", "0", "none", "none"])
        self.assert_refused(console, "undo", NothingToUndo, {})

    def test_same_with_all_plans(self):
        for plan in PLANS:
            console = Console(format_plan(plan))
            for other in PLANS:
                command = "same " + format_plan(other)
                if sorted(lines_in(plan)) == sorted(lines_in(other)):
                    answer = "yes" if kinds_in(plan) == kinds_in(other) else "no"
                    self.assertEqual(console.say(command), answer)
                else:
                    self.assert_refused(console, command, OtherLines, {})


class ErrorsTest(ConsoleCase):
    def test_errors_of_the_yard(self):
        console = three()
        self.assert_refused(console, "enter c 7", UnknownLine, {"line": "c"})
        self.assert_refused(console, "enter c 0", UnknownLine, {"line": "c"})
        self.assert_refused(console, "enter a 0", InvalidHeight, {"height": 0})
        self.assert_refused(console, "enter a 1000", InvalidHeight, {"height": 1000})
        self.assert_refused(console, "enter a " + "9" * 30, InvalidHeight, {"height": 10 ** 30 - 1})
        self.assert_refused(console, "enter b 5", HeightTaken, {"height": 5})
        self.assert_refused(console, "leave 7", UnknownHeight, {"height": 7})
        self.assert_refused(console, "leave 0", UnknownHeight, {"height": 0})
        self.assert_refused(console, "leave " + "1" * 30, UnknownHeight, {"height": int("1" * 30)})
        self.assert_refused(console, "open b low", LineTaken, {"line": "b"})
        self.assert_refused(console, "close c", UnknownLine, {"line": "c"})
        self.assert_refused(console, "close a", LineInUse, {"line": "a"})
        self.assert_refused(Console("a"), "close a", LastLine, {})
        self.assert_refused(Console("a"), "go", NobodyWaits, {})
        self.assert_refused(Console("a"), "undo", NothingToUndo, {})
        eight = Console(format_plan(left_comb(["low"] * 7)))
        self.assert_refused(eight, "open i low", TooManyLines, {"count": 8})

    def test_too_many_people_and_deeds(self):
        console = three()
        say_all(console, *[f"enter b {height}" for height in range(100, 137)])
        self.assert_refused(console, "enter a 9", TooManyPeople, {"count": 40})
        say_all(console, *["leave 5", "enter a 5"] * 480)
        self.assertEqual(console.say("deeds"), "1000")
        for command in ("leave 5", "go", "open c low"):
            self.assert_refused(console, command, TooManyDeeds, {"count": 1000})
        self.assertEqual(say_all(console, "undo", "go", "deeds"), ["ok", "1", "1000"])

    def test_errors_of_the_functions(self):
        console = three()
        self.assert_refused(console, "line c", UnknownLine, {"line": "c"})
        self.assert_refused(console, "kind c d", UnknownLine, {"line": "c"})
        self.assert_refused(console, "kind a d", UnknownLine, {"line": "d"})
        self.assert_refused(console, "kind b b", UnknownLine, {"line": "b"})
        for text in ("a", "low(a, c)", "low(a, b, c)", "zz"):
            self.assert_refused(console, "same " + text, OtherLines, {})


class NoCommandTest(ConsoleCase):
    def test_values_that_are_no_strings(self):
        for value in other_values() + [b"go", ("go",), ["go"], ("enter", "a", 5)]:
            self.assert_no_command(value)

    def test_other_spaces_and_line_feeds(self):
        for command in ["go", "undo", "rest", "gone", "plan", "deeds", "enter a 7", "leave 5", "open c low",
                        "close b", "line a", "kind a b", "same low(a, b)"]:
            for wrong in [" " + command, command + " ", command + "\n", "\n" + command, command + "\n\n",
                          command.upper(), command.capitalize(), command + " a", command + ".", command + "  "]:
                self.assert_no_command(wrong)
            if " " in command:
                self.assert_no_command(command.replace(" ", "  ", 1))
                self.assert_no_command(command.replace(" ", "\n", 1))
                self.assert_no_command(command.replace(" ", "", 1))
                self.assert_no_command(command.replace(" ", ", ", 1))

    def test_unknown_words(self):
        for command in ["", " ", "\n", "goes", "g", "help", "none", "ok", "log", "crowd", "do_all", "open_line c low",
                        "perform go", "a", "low(a, b)", "replay", "say go", "go,", "enter", "leave", "open", "close",
                        "line", "kind", "same", "~"]:
            self.assert_no_command(command)

    def test_too_few_and_too_many_words(self):
        for command in ["enter a", "enter 7", "enter a 7 7", "leave a 5", "leave 5 5", "go 5", "go go", "open c",
                        "open low", "open c low high", "close a b", "undo 1", "undo undo", "rest a", "gone 1",
                        "line a b", "plan a", "deeds 3", "kind a", "kind a b c", "same low(a, b) low(a, b)"]:
            self.assert_no_command(command)

    def test_words_that_are_no_lines(self):
        for word in ["A", "aB", "abcdefg", "a1", "1", "a-b", "a,", "a_b", "(a)", "~", "a\n", "a\nb"]:
            for command in [f"enter {word} 7", f"open {word} low", f"close {word}", f"line {word}",
                            f"kind {word} a", f"kind a {word}"]:
                self.assert_no_command(command)

    def test_words_that_are_no_heights(self):
        for word in ["05", "00", "007", "-5", "+5", "5.0", "5a", "a", "1" * 31, "9" * 31, "0" * 31, "1_0", "0x5", "5,",
                     "", "5\n", "1e3", "five", "True"]:
            self.assert_no_command("enter a " + word)
            self.assert_no_command("leave " + word)

    def test_words_that_are_no_kinds(self):
        for word in ["Low", "HIGH", "lo", "lows", "middle", "a", "1", "", "low\n"]:
            self.assert_no_command("open c " + word)

    def test_texts_that_are_no_written_forms(self):
        for text in ["", " ", "low(a,b)", "low(a,  b)", " low(a, b)", "low(a, b) ", "low (a, b)", "Low(a, b)", "low(a)",
                     "low(a, a)", "low(a, b", "low(a, b))", "A", "a b", "low(a, b)\n", "('low', ('a', 'b'))", "1",
                     "low(a, high(b, b))", "low(a, b, c, d, e, f, g, h, i)", "low(" * 300 + "a"]:
            self.assert_no_command("same " + text)


if __name__ == "__main__":
    unittest.main()
