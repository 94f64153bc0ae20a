import unittest

from allmends.notation import parse_expression, parse_program, print_expression, print_program
from allmends.programs import Program
from tests.samples import body_program, sample_program

BINARY = ("or", "and", "==", "<", "+", "-", "*")
LEAVES = (("number", 0), ("name", "a"), ("number", 9999), ("name", "longname"))


def attributes(program):
    return program.letters, program.answers, program.variables, program.procedures, program.places


def expressions(depth):
    """Expressions up to this depth, with every operator within every other one."""
    if depth == 1:
        return [LEAVES[1]]
    inner = expressions(depth - 1)
    found = list(inner) + [("not", part) for part in inner]
    for sign in BINARY:
        found.extend((sign, left, ("name", "b")) for left in inner)
        found.extend((sign, ("number", 1), right) for right in inner)
    return found


class PrintProgramTest(unittest.TestCase):
    def test_the_example(self):
        text = "letters 2\nanswers 2\nproc main()\n  local x 3\n  read x\n  x = 0\n  write 0\nend\n"
        self.assertEqual(print_program(sample_program()), text)

    def test_every_form(self):
        lines = [
            "letters 2",
            "answers 3",
            "global g 2",
            "global h 3",
            "proc main()",
            "  local x 3",
            "  local y 2",
            "  read x",
            "  x = (g + 1) * 2",
            "  write not g",
            "  call p(x - 1, g and y)",
            "  call q()",
            "  skip",
            "  if g then",
            "    write 1",
            "    if y then",
            "    else",
            "      skip",
            "    end",
            "  else",
            "    while x < 2 do",
            "      while 0 do",
            "      end",
            "      skip",
            "    end",
            "  end",
            "  if g then",
            "  end",
            "  if g then",
            "    skip",
            "  end",
            "end",
            "proc p(a 2, b 3)",
            "end",
            "proc q()",
            "  local c 4",
            "end",
            "proc r(d 2)",
            "  skip",
            "end",
        ]
        text = "".join(line + "\n" for line in lines)
        self.assertEqual(print_program(parse_program(text)), text)
        self.assertEqual(print_program(parse_program(" ".join(lines))), text)

    def test_there_and_back(self):
        test = ("not", ("<", ("name", "x"), ("name", "g")))
        body = [
            ("if", test, [("if", test, [], [("skip",)])], [("while", test, [("if", test, [], [])])]),
            ("call", "p", [test, ("*", ("+", ("name", "x"), ("number", 1)), ("number", 9))]),
            ("while", test, [("read", "x"), ("write", ("name", "x"))]), ("set", "g", test),
        ]
        others = [("p", [("a", 2), ("b", 3)], [("c", 2)], [("write", ("name", "c"))]), ("q", [], [], [])]
        program = body_program(body, others=others)
        again = parse_program(print_program(program))
        self.assertEqual(attributes(again), attributes(program))
        self.assertEqual(print_program(again), print_program(program))

    def test_the_smallest_program(self):
        program = Program(1, 4, [], [("p", [], [], [])])
        self.assertEqual(print_program(program), "letters 1\nanswers 4\nproc p()\nend\n")
        self.assertEqual(attributes(parse_program(print_program(program))), attributes(program))

    def test_the_deepest_nesting(self):
        body = [("skip",)]
        for at in range(5):
            body = [("while", ("number", 1), body)] if at % 2 else [("if", ("number", 0), [], body)]
        program = body_program(body)
        lines = print_program(program).split("\n")
        self.assertIn("            skip", lines)
        self.assertEqual(attributes(parse_program(print_program(program))), attributes(program))


class PrintExpressionTest(unittest.TestCase):
    def test_leaves(self):
        for leaf, text in zip(LEAVES, ("0", "a", "9999", "longname")):
            self.assertEqual(print_expression(leaf), text)

    def test_spaces(self):
        for sign in BINARY:
            self.assertEqual(print_expression((sign, ("name", "a"), ("number", 1))), f"a {sign} 1")
        self.assertEqual(print_expression(("not", ("name", "a"))), "not a")

    def test_parentheses_where_they_have_to_be(self):
        for text in (
            "a or b or c", "a or (b or c)", "a or b and c", "(a or b) and c", "a and b and c", "a and (b and c)",
            "not a or b", "not (a or b)", "not (a and b)", "not (not a)", "not a == b", "(not a) == b", "a == (not b)",
            "not a < b + 1", "(a == b) == c", "a == (b == c)", "(a < b) == c", "a < (b == c)", "a + b < c * d",
            "a == (b and c)", "(a or b) < c", "a + b + c", "a + (b + c)", "a - b - c", "a - (b - c)", "a - (b + c)",
            "a + (b - c)", "a - b + c", "a + b * c", "(a + b) * c", "a * (b - c)", "a * b * c", "a * (b * c)",
            "a * b + c", "a * (not b)", "(not a) * b", "(a == b) + c", "a + (b < c)", "(a and b) + c", "a and not b",
            "a or not b and c",
            "not a and not b", "a and b == c", "a and (b or c)", "not a + b", "(not a) + b",
        ):
            self.assertEqual(print_expression(parse_expression(text)), text)

    def test_no_other_parentheses(self):
        for text, expected in (
            ("((a))", "a"), ("(a or b) or c", "a or b or c"), ("a or (b and c)", "a or b and c"),
            ("not (a)", "not a"), ("not (a == b)", "not a == b"), ("(not a) and b", "not a and b"),
            ("(a + b) < (c - d)", "a + b < c - d"), ("(a * b) - c", "a * b - c"), ("(a - b) + c", "a - b + c"),
            ("a and (not b)", "a and not b"), ("(a == b) or (c < d)", "a == b or c < d"), ("(a)*(b)", "a * b"),
        ):
            self.assertEqual(print_expression(parse_expression(text)), expected)

    def test_there_and_back(self):
        found = expressions(4)
        self.assertGreater(len(found), 4000)
        for expression in found:
            text = print_expression(expression)
            self.assertEqual(parse_expression(text), expression, text)

    def test_no_pair_of_parentheses_can_be_left_out(self):
        for expression in expressions(3):
            text = print_expression(expression)
            for start in [at for at, sign in enumerate(text) if sign == "("]:
                end = self.closing(text, start)
                without = f"{text[:start]}{text[start + 1:end]}{text[end + 1:]}"
                try:
                    self.assertNotEqual(parse_expression(without), expression, text)
                except ValueError:
                    pass

    def closing(self, text, start):
        """The position of the parenthesis that closes the one at `start`."""
        nested = 0
        for at in range(start, len(text)):
            nested += {"(": 1, ")": -1}.get(text[at], 0)
            if nested == 0:
                return at
        return len(text)

    def test_forty_operators(self):
        left = ("number", 1)
        for _ in range(40):
            left = ("-", left, ("number", 1))
        self.assertEqual(print_expression(left), " - ".join(["1"] * 41))
        self.assertEqual(parse_expression(print_expression(left)), left)


if __name__ == "__main__":
    unittest.main()
