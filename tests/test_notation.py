import re
import unittest

from frontmeets.errors import InvalidPlan, InvalidText
from frontmeets.notation import format_plan, parse_plan
from tests.checks import Case
from tests.samples import PLANS, draw_plans, left_comb, no_plans, other_values, right_comb

PLAN = ("low", ("a", ("high", ("b", "c"))))
TEXT = "low(a, high(b, c))"
SAMPLES = list(PLANS) + draw_plans(12)


def written(plan):
    """Return the written form of the plan, made from the way in which Python writes tuples."""
    text = re.sub(r"\('(low|high)', \(", r"\1(", repr(plan))
    return text.replace("'", "").replace("))", ")")


def is_written(text):
    """Tell whether the text is the written form of a plan, by putting # for junctions, inside out."""
    lines = re.findall(r"[a-z]+(?![a-z(])", text)
    part = r"([a-z]{1,6}|#)"
    while re.search(rf"(low|high)\({part}(, {part})+\)", text):
        text = re.sub(rf"(low|high)\({part}(, {part})+\)", "#", text)
    return bool(re.fullmatch(part, text)) and len(set(lines)) == len(lines) <= 8


class FormatPlanTest(Case):
    def test_the_interface(self):
        self.assert_interface(format_plan, "frontmeets.notation", ["plan"])

    def test_the_example_of_the_document(self):
        self.assertEqual(format_plan(PLAN), TEXT)

    def test_lines(self):
        for line in ("a", "z", "abcdef", "low", "high"):
            self.assertEqual(format_plan(line), line)

    def test_junctions(self):
        self.assertEqual(format_plan(("high", ("b", "a"))), "high(b, a)")
        self.assertEqual(format_plan(("low", ("high", "low"))), "low(high, low)")
        self.assertEqual(format_plan(("high", tuple("abcdefgh"))), "high(a, b, c, d, e, f, g, h)")
        self.assertEqual(
            format_plan(("low", (("high", (("low", ("a", "b")), "c")), ("high", ("d", "e")), "f"))),
            "low(high(low(a, b), c), high(d, e), f)",
        )
        self.assertEqual(
            format_plan(right_comb(["low", "high"] * 3 + ["low"])),
            "low(a, high(b, low(c, high(d, low(e, high(f, low(g, h)))))))",
        )
        self.assertEqual(
            format_plan(left_comb(["low"] * 7)), "low(low(low(low(low(low(low(a, b), c), d), e), f), g), h)"
        )

    def test_against_the_way_in_which_python_writes_tuples(self):
        for plan in SAMPLES:
            with self.subTest(plan=plan):
                self.assertEqual(format_plan(plan), written(plan))

    def test_values_that_are_no_plans(self):
        for value in no_plans():
            with self.subTest(value=value):
                self.assert_error(InvalidPlan, {"value": value}, format_plan, value)

    def test_by_position_and_by_name(self):
        self.assert_calls(format_plan, ["plan"], (PLAN,), TEXT)


class ParsePlanTest(Case):
    def assert_text(self, text):
        self.assert_error(InvalidText, {"text": text}, parse_plan, text)

    def test_the_interface(self):
        self.assert_interface(parse_plan, "frontmeets.notation", ["text"])

    def test_the_examples_of_the_document(self):
        self.assertEqual(parse_plan("high(low, low(a, b))"), ("high", ("low", ("low", ("a", "b")))))
        self.assert_text("low(a,b)")

    def test_each_plan_is_read_as_it_was_written(self):
        for plan in SAMPLES:
            with self.subTest(plan=plan):
                self.assertEqual(parse_plan(format_plan(plan)), plan)
                self.assertEqual(format_plan(parse_plan(format_plan(plan))), format_plan(plan))

    def test_lines_that_are_called_like_kinds(self):
        self.assertEqual(parse_plan("low"), "low")
        self.assertEqual(parse_plan("high"), "high")
        self.assertEqual(parse_plan("low(low, high)"), ("low", ("low", "high")))
        self.assertEqual(parse_plan("high(high(high, lowlow), low)"),
                         ("high", (("high", ("high", "lowlow")), "low")))

    def test_texts_that_are_no_plans(self):
        texts = [
            "", " ", "\n", "A", "a1", "abcdefg", "a b", " a", "a ", "a\n", "\na", "a,", ", a", "a, b",
            "(", ")", "()", "(a, b)", "low()", "low(", "low)", "low(a", "low(a)", "low(a,)", "low(a, )",
            "low(a, b", "low(a, b))", "low((a, b)", "low(a, b),", "low(a, b), c", "low(a, b)c",
            "low(a, b) ", " low(a, b)", "low (a, b)", "low( a, b)", "low(a, b )", "low(a , b)",
            "low(a,  b)", "low(a, b)\n", "low(a,\nb)", "low\n(a, b)", "low(a b)", "low(a,, b)",
            "low(, a, b)", "low(a, b, )", "Low(a, b)", "LOW(a, b)", "lo(a, b)", "lows(a, b)",
            "middle(a, b)", "a(b, c)", "low(a, a)", "low(a, high(b, a))", "low(a, B)", "low(a, 1)",
            "low(a, abcdefg)", "low(a, high(b))", "low(high(a, b))", "low(a, High(b, c))",
            "low(a, (b, c))", "low(a, b)(c, d)", "low(a, high(b, c)", "low[a, b]", "low(a; b)",
            "low('a', 'b')", "('low', ('a', 'b'))", "low(a, b)low(c, d)", "low(low(low", "low(a, low)b",
            "low(a, b, c, d, e, f, g, h, i)", "low(high(a, b, c, d), high(e, f, g, h, i))",
            "low(low(low(low(low(low(low(low(a, b), c), d), e), f), g), h), i)",
        ]
        for text in texts:
            with self.subTest(text=text):
                self.assert_text(text)

    def test_long_texts(self):
        for text in ["low(" * 500, "low(a, " * 280, "(" * 2000, ")" * 2000, "a" * 2000, "a, " * 600,
                     "low(" + "a, " * 600 + "b)", "low(" * 300 + "a" + ", b)" * 180, "\n" * 2000]:
            with self.subTest(text=text[:20]):
                self.assert_text(text)

    def test_a_character_left_out_doubled_or_exchanged(self):
        plans = 0
        for plan in [PLAN, PLANS[-1], ("low", ("high", "low")), ("high", ("ab", "cde", "fghijk"))]:
            text = format_plan(plan)
            changed = []
            for place, character in enumerate(text):
                before, behind = text[:place], text[place + 1:]
                changed += [before + behind, before + character * 2 + behind]
                changed += [before + new + behind for new in "az(), \nA1~"]
                changed.append(before + behind[:1] + character + behind[1:])
            for other in changed:
                with self.subTest(text=other):
                    if is_written(other):
                        plans += 1
                        self.assertEqual(written(parse_plan(other)), other)
                    else:
                        self.assert_text(other)
        self.assertGreater(plans, 20)

    def test_values_that_are_no_strings(self):
        for value in other_values() + [PLAN, ["low"], ("low", ("a", "b")), 7, b"low(a, b)", {"a"}]:
            if not isinstance(value, str):
                with self.subTest(value=value):
                    self.assert_text(value)

    def test_by_position_and_by_name(self):
        self.assert_calls(parse_plan, ["text"], (TEXT,), PLAN)
        with self.assertRaises(InvalidText) as held:
            parse_plan(text="low(a)")
        self.assertEqual(held.exception.text, "low(a)")


if __name__ == "__main__":
    unittest.main()
