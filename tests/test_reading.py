import unittest

from allmends.errors import InvalidProgram, InvalidText
from allmends.notation import parse_expression, parse_program, print_program
from tests.samples import SOURCE

KEYWORDS = "letters answers global proc local read write if then else while do call skip end and or not".split()
HEAD = "letters 2 answers 2 global g 3 proc main() local x 3 "


def position_of(parse, text):
    """The position with which a text is refused, or None if its form is right."""
    try:
        parse(text)
    except InvalidText as error:
        return error.position
    except InvalidProgram:
        return None
    return None


class MarkedTest(unittest.TestCase):
    def refuse(self, text, parse=parse_program):
        """The text without the mark ^ is refused where the mark stands."""
        before, behind = text.split("^")
        self.assertEqual(position_of(parse, before + behind), len(before), text)

    def refuse_body(self, text):
        """The same for a text in the body of the main procedure."""
        self.refuse(f"{HEAD}{text}")

    def refuse_expression(self, text):
        """The same for an expression, by itself and within a program."""
        self.refuse(text, parse_expression)
        if not text.endswith("^"):
            self.refuse_body(f"if {text} then end end")

    def accept(self, text, parse=parse_program):
        self.assertIsNone(position_of(parse, text), text)

    def accept_body(self, text):
        self.accept(f"{HEAD}{text} end")


class TokensTest(MarkedTest):
    def test_longest_text(self):
        for parse in (parse_program, parse_expression):
            start = SOURCE if parse == parse_program else "1 + x"
            self.accept(start.ljust(4000), parse)
            self.accept(start.rjust(4000, "\n"), parse)
            for text in (start.ljust(4001), "$" * 4001, " " * 5000, "letters 2 answers 2 " * 1000):
                self.assertEqual(position_of(parse, text), 4000)
        self.assertEqual(position_of(parse_program, "$" * 4000), 0)
        self.assertEqual(position_of(parse_program, " " * 4000), 4000)
        self.assertEqual(position_of(parse_program, SOURCE[:-3].ljust(4000)), 4000)

    def test_spaces_and_newlines_separate(self):
        spread = "\n\n  ".join(SOURCE.replace("(", " ( ").replace(")", " ) ").replace("=", " = ").split())
        for text in (spread, f"\n {SOURCE} \n", "letters 2answers 2proc main()local x 3read x x=0write 0end"):
            self.assertEqual(print_program(parse_program(text)), print_program(parse_program(SOURCE)))

    def test_tokens_are_as_long_as_possible(self):
        self.assertEqual(parse_expression("2==x1"), ("==", ("number", 2), ("name", "x1")))
        self.refuse_expression("2^x")
        self.refuse("^letters2 answers 2")
        self.refuse_body("x ^==1 end")
        self.refuse_expression("x ==^=1")
        self.refuse_body("x = ^= 1 end")
        self.refuse_body("x ^end")

    def test_characters_that_begin_no_token(self):
        for character in "$AZ_;:{}[].>!?/|&\"'\t@#~`\\":
            self.refuse(f"letters 2 answers 2 ^{character}proc main() end")
            self.refuse_expression(f"x ^{character} 1")
            self.refuse_expression(f"x + ^{character}")
            self.refuse_body(f"skip ^{character} end")
            self.refuse(f"{SOURCE} ^{character}")
        self.refuse_expression("x^Y")
        self.refuse("^Letters 2 answers 2")
        self.refuse("\n ^\tletters 2 answers 2")

    def test_numbers(self):
        for number in ("0", "7", "10", "100", "9999"):
            self.assertEqual(parse_expression(number), ("number", int(number)))
            self.accept(f"letters {number} answers {number} global g {number}")
        for number in ("007", "00", "01", "0000", "10000", "12345", "00000", "99999999"):
            self.refuse_expression(f"^{number}")
            self.refuse_expression(f"1 + ^{number}")
            self.refuse(f"letters ^{number} answers 2")
            self.refuse(f"letters 2 answers ^{number}")
            self.refuse(f"letters 2 answers 2 global g ^{number}")
            self.refuse(f"letters 2 answers 2 proc main(a ^{number})")
            self.refuse(f"letters 2 answers 2 proc main() local a ^{number} end")
        self.refuse_expression("^007x")
        self.refuse_expression("x + ^10000x")


class FormTest(MarkedTest):
    def test_what_is_read(self):
        program = parse_program(
            "letters 1 answers 2 global g 2 global h 3 proc main() local x 3 local y 2 read x g = x or y "
            "write 1 call p(x, 1 - y) call q() skip if x then skip else read x end if x then end "
            "while x do skip while y do end end end proc p(a 2, b 3) end proc q() local c 4 end"
        )
        x, y, one = ("name", "x"), ("name", "y"), ("number", 1)
        self.assertEqual((program.letters, program.answers), (1, 2))
        self.assertEqual(program.variables, (("g", 2), ("h", 3)))
        self.assertEqual(program.procedures, (
            ("main", (), (("x", 3), ("y", 2)), (
                ("read", "x"), ("set", "g", ("or", x, y)), ("write", one), ("call", "p", (x, ("-", one, y))),
                ("call", "q", ()), ("skip",), ("if", x, (("skip",),), (("read", "x"),)), ("if", x, (), ()),
                ("while", x, (("skip",), ("while", y, ()))),
            )),
            ("p", (("a", 2), ("b", 3)), (), ()), ("q", (), (("c", 4),), ()),
        ))

    def test_head(self):
        self.refuse("^")
        self.refuse(" \n^")
        self.refuse("^answers 2 letters 2")
        self.refuse("letters^")
        self.refuse("letters ^x answers 2")
        self.refuse("letters 2 ^global g 2")
        self.refuse("letters 2 answers^")
        self.refuse("letters 2 answers ^= 2")
        self.refuse("letters 2 answers 2 ^3")
        self.refuse("letters 2 answers 2 ^end")
        self.refuse("letters 2 answers 2 ^local x 2 proc main() end")
        self.refuse("letters 2 answers 2 ^skip")
        self.accept("letters 2 answers 2")

    def test_globals_and_procedures(self):
        start = "letters 2 answers 2 "
        self.refuse(f"{start}global ^2")
        self.refuse(f"{start}global ^global 2")
        self.refuse(f"{start}global g ^proc main() end")
        self.refuse(f"{start}global g 2 ^h 2")
        self.refuse(f"{start}proc main() end ^global g 2")
        self.refuse(f"{start}proc main() end ^end")
        self.refuse(f"{start}proc ^(a 2) end")
        self.refuse(f"{start}proc main ^end")
        self.refuse(f"{start}proc main(^2 a) end")
        self.refuse(f"{start}proc main(^, a 2) end")
        self.refuse(f"{start}proc main(a 2 ^a 2) end")
        self.refuse(f"{start}proc main(a 2,^) end")
        self.refuse(f"{start}proc main(a^) end")
        self.refuse(f"{start}proc main(a 2 ^proc")
        self.refuse(f"{start}proc main() local ^read x end")
        self.refuse(f"{start}proc main() local x ^x 2 end")
        self.refuse(f"{start}proc main() skip ^local x 2 end")
        self.refuse(f"{start}proc main() end proc p() skip^")

    def test_statements(self):
        for text in ("^else end", "^then end", "^do end", "^proc p() end", "^global g 2", "^2 = x", "^(x) = 1 end",
                     "^, end", "^not x end", "^letters 2", "skip ^2"):
            self.refuse_body(text)
        self.refuse_body("^")
        self.refuse_body("skip^")
        self.refuse_body("x ^1 end")
        self.refuse_body("x ^read x end")
        self.refuse_body("x = ^end")
        self.refuse_body("x = 1 ^, end")
        self.refuse_body("x = 1^")
        self.refuse_body("read ^1 end")
        self.refuse_body("read ^(x) end")
        self.refuse_body("read x ^, x end")
        self.refuse_body("write ^end")
        self.refuse_body("write ^write 1 end")
        self.refuse_body("call ^1() end")
        self.refuse_body("call p ^end")
        self.refuse_body("call p(^, 1) end")
        self.refuse_body("call p(1 ^2) end")
        self.refuse_body("call p(1,^) end")
        self.refuse_body("call p(1 ^end")
        self.refuse_body("call p(1) ^) end")

    def test_if_and_while(self):
        self.refuse_body("if ^then end end")
        self.refuse_body("if x ^do end end")
        self.refuse_body("if x ^skip end end")
        self.refuse_body("if x then skip^")
        self.refuse_body("if x then end^")
        self.refuse_body("if x then ^local y 2 end end")
        self.refuse_body("if x then else ^else end end")
        self.refuse_body("if x then else skip ^then end end")
        self.refuse_body("while ^do end end")
        self.refuse_body("while x ^then end end")
        self.refuse_body("while x do ^else end end")
        self.refuse_body("while x do ^proc p() end")
        self.refuse_body("while x do if x then end ^else end end")
        self.accept_body("if x then if x then else end else while x do end end")

    def test_keywords_are_no_names(self):
        for word in KEYWORDS:
            self.refuse_expression(f"1 + ^{word}")
            self.refuse(f"letters 2 answers 2 global ^{word} 2")
            self.refuse(f"letters 2 answers 2 proc ^{word}() end")
            self.refuse(f"letters 2 answers 2 proc main(^{word} 2) end")
            self.refuse(f"letters 2 answers 2 proc main() local ^{word} 2 end")
            self.refuse_body(f"read ^{word} end")
            self.refuse_body(f"call ^{word}() end")
        for word in ("to", "state", "over", "finish", "silent", "ifx", "end0"):
            self.assertEqual(parse_expression(word), ("name", word))

    def test_names_may_have_any_length_in_the_form(self):
        for name, reason in (("abcdefgh", None), ("abcdefghi", "name"), ("a" * 200, "name")):
            self.assertEqual(parse_expression(name), ("name", name))
            text = f"letters 2 answers 2 proc main() local {name} 3 read {name} end"
            self.accept(text)
            if reason:
                with self.assertRaises(InvalidProgram) as caught:
                    parse_program(text)
                self.assertEqual(caught.exception.reason, reason)
            else:
                self.assertEqual(parse_program(text).names(0), (name,))

    def test_the_form_comes_before_the_rules(self):
        self.refuse("letters 9 answers 9 global abcdefghi 9 proc main() x = 77 ^$")
        with self.assertRaises(InvalidProgram) as caught:
            parse_program("letters 9 answers 9 global abcdefghi 9 proc main() x = 77 end")
        self.assertEqual(caught.exception.reason, "letters")
        for text, reason in (
            ("letters 2 answers 2", "procedures"), (f"{HEAD}write 10 end", "number"), (f"{HEAD}y = 1 end", "unknown"),
        ):
            with self.assertRaises(InvalidProgram) as caught:
                parse_program(text)
            self.assertEqual(caught.exception.reason, reason)


class ExpressionTest(MarkedTest):
    def same(self, text, other):
        self.assertEqual(parse_expression(text), parse_expression(other), text)

    def test_the_example(self):
        self.assertEqual(parse_expression("a - (b - 1) * 2"), (
            "-", ("name", "a"), ("*", ("-", ("name", "b"), ("number", 1)), ("number", 2)),
        ))

    def test_each_operator(self):
        for sign in ("or", "and", "==", "<", "+", "-", "*"):
            self.assertEqual(parse_expression(f"a {sign} 1"), (sign, ("name", "a"), ("number", 1)))
        self.assertEqual(parse_expression("not a"), ("not", ("name", "a")))
        self.assertEqual(parse_expression("((a))"), ("name", "a"))

    def test_operators_associate_to_the_left(self):
        for first, second in ("++", "--", "+-", "-+", "**", ("or", "or"), ("and", "and")):
            self.same(f"a {first} b {second} c", f"(a {first} b) {second} c")
            other = parse_expression(f"a {first} (b {second} c)")
            self.assertNotEqual(parse_expression(f"a {first} b {second} c"), other)

    def test_levels(self):
        self.same("a or b and c or d", "(a or (b and c)) or d")
        self.same("not a and not b", "(not a) and (not b)")
        self.same("not a == b", "not (a == b)")
        self.same("not a or b", "(not a) or b")
        self.same("a + b < c - d", "(a + b) < (c - d)")
        self.same("a == b and c < d", "(a == b) and (c < d)")
        self.same("a + b * c - d", "(a + (b * c)) - d")
        self.same("a * b + c * d", "(a * b) + (c * d)")
        self.same("(a or b) and c", "((a or b)) and c")

    def test_what_does_not_fit(self):
        for text in ("^", "a + ^", "(a^", "not^", "(^", "a and^"):
            self.refuse_expression(text)
        for text in (
            "a < b ^< c", "a == b ^== c", "a == b ^< c", "not ^not a", "a == ^not b", "a + ^not b", "a * ^* b",
            "a ^b", "a ^1", "1 ^a", "a ^)", "(a ^b)", "(^)", "^)", "^- 1", "a + ^- 1", "a ^(b)", "^, a", "a ^not b",
            "a and ^or b", "(a < b ^== c)", "^== a", "a or ^and b",
        ):
            self.refuse_expression(text)
        self.refuse("a ^, b", parse_expression)
        self.refuse("a ^= b", parse_expression)
        self.refuse("a ^then", parse_expression)
        self.refuse("a ^end", parse_expression)

    def test_open_parentheses(self):
        self.assertEqual(parse_expression("(" * 10 + "a" + ")" * 10), ("name", "a"))
        self.refuse_expression("(" * 10 + "^(" + "a" + ")" * 11)
        self.refuse_expression("(" * 10 + "a + ^(b)" + ")" * 10)
        self.refuse_expression("(" * 9 + "(a) + (b + ^(c))" + ")" * 9)
        self.assertEqual(position_of(parse_expression, "(" * 9 + "(a) + (b)" + ")" * 9), None)
        self.accept(" + ".join(["((a))"] * 20), parse_expression)
        self.accept_body("write " + "(" * 10 + "x" + ")" * 10)
        self.refuse(f"{HEAD}write {'(' * 10}^(x{')' * 11} end")

    def test_the_parenthesis_of_a_call_does_not_count(self):
        ten = "(" * 10 + "x" + ")" * 10
        self.accept_body(f"call p({ten}, {ten})")
        self.refuse_body(f"call p({ten}, {'(' * 10}^(x")
        self.accept_body(f"write {ten} write {ten}")

    def test_forty_operators(self):
        for sign in ("+", "-", "*", "or", "and"):
            self.accept(f" {sign} ".join(["a"] * 41), parse_expression)
            self.refuse_expression(f" {sign} ".join(["a"] * 41) + f" ^{sign} a")
        forty = " + ".join(["a"] * 41)
        for sign in ("or", "and", "==", "<", "+", "-", "*"):
            self.refuse_expression(f"{forty} ^{sign} a")
        most = " or ".join(["not a == (b < c)"] * 10)
        self.accept(f"{most} + b", parse_expression)
        self.refuse_expression(f"{most} + b ^- a")
        self.refuse_expression(f"{most} or ^not b")
        self.refuse_expression(f"({forty}) ^* a")
        self.refuse_expression(f"({forty} ^* a) * a")

    def test_operators_of_other_expressions_do_not_count(self):
        forty = " + ".join(["x"] * 41)
        self.accept_body(f"write {forty} x = {forty} call p({forty}, {forty}) if {forty} then end")
        self.refuse_body(f"call p({forty}, {forty} ^+ x)")


class OpenStatementsTest(MarkedTest):
    def test_ten_open_statements(self):
        for words in (["if"] * 10, ["while"] * 10, ["if", "while"] * 5):
            opened = "".join("if x then " if word == "if" else "while x do " for word in words)
            closed = "end " * 10
            self.accept_body(f"{opened}skip {closed}")
            self.refuse_body(f"{opened}^if x then end {closed} end")
            self.refuse_body(f"{opened}skip ^while x do end {closed} end")
            self.accept_body(f"{opened}{closed}{opened}{closed}")

    def test_bodies_of_else_are_open_too(self):
        opened = "if x then else " * 10
        self.accept_body(f"{opened}{'end ' * 10}")
        self.refuse_body(f"{opened}^if x then end")
        self.refuse_body(f"{opened}end ^else")
        nine = "while x do " * 9
        self.accept_body(f"{nine}if x then end if x then else end while x do end {'end ' * 9}")
        self.refuse_body(f"{nine}if x then end if x then else ^while x do")

    def test_each_procedure_begins_anew(self):
        opened = "if x then " * 10
        self.accept(f"{HEAD}{opened}{'end ' * 10}end proc p() {opened}{'end ' * 10}end")
        with self.assertRaises(InvalidProgram) as caught:
            parse_program(f"{HEAD}{opened}{'end ' * 10}end")
        self.assertEqual(caught.exception.reason, "nesting")


class FirstFaultTest(MarkedTest):
    def test_the_first_fault_in_the_text_decides(self):
        self.refuse_expression("a ^b $")
        self.refuse_expression("a ^$ b c")
        self.refuse_expression("a + ^007 $")
        self.refuse_expression("a ^$ + 007")
        self.refuse_expression("a ^B 10000")
        self.refuse_body("write ^end $")
        self.refuse_body("x ^: 1 end end")
        self.refuse("letters 2 ^$ answers 007")
        self.refuse("letters 2 answers ^007 $")
        deep = "if x then " * 10
        self.refuse_body(f"{deep}^if then")
        self.refuse_body(f"if x ^$ then {deep}")
        ten = "(" * 10
        self.refuse_expression(f"{ten}^(((")
        self.refuse_expression(f"{ten} ^) (")
        forty = " + ".join(["a"] * 41)
        self.refuse_expression(f"{forty} ^+ $")
        self.refuse_expression(f"{forty} ^$ + a")
        self.refuse_expression(f"{'(' * 10}{forty} ^+ (a")


if __name__ == "__main__":
    unittest.main()
