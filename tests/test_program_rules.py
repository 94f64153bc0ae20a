import unittest

from allmends.errors import InvalidProgram, MendError
from allmends.notation import parse_program
from allmends.programs import Program

ONE = ("number", 1)
SKIP = ("skip",)
KEYWORDS = "letters answers global proc local read write if then else while do call skip end and or not".split()


def reason(letters=1, answers=2, variables=(), procedures=None, body=(), parameters=(), inner=(), others=()):
    """The reason with which a program is refused, or None if it is not refused."""
    if procedures is None:
        procedures = [("main", parameters, inner, body), *others]
    try:
        Program(letters, answers, variables, procedures)
    except InvalidProgram as error:
        return error.reason
    return None


def variables_named(names, size=2):
    return [(name, size) for name in names]


def deep(depth):
    """An expression of this depth."""
    expression = ONE
    for at in range(depth - 1):
        expression = ("+", ONE, expression) if at % 2 else ("not", expression)
    return expression


def nest(depth, word="if"):
    """A body whose innermost statement has this depth."""
    body = [SKIP]
    for at in range(depth - 1):
        if word == "while":
            body = [("while", ONE, body)]
        else:
            body = [("if", ONE, body, [])] if at % 2 else [("if", ONE, [], body)]
    return body


class BoundsTest(unittest.TestCase):
    def test_letters(self):
        for letters in (1, 2, 3):
            self.assertIsNone(reason(letters=letters))
        for letters in (0, 4, -1, 100):
            self.assertEqual(reason(letters=letters), "letters")

    def test_answers(self):
        for answers in (2, 3, 4):
            self.assertIsNone(reason(answers=answers))
        for answers in (1, 5, 0, -2):
            self.assertEqual(reason(answers=answers), "answers")

    def test_procedures(self):
        for many in range(1, 6):
            self.assertIsNone(reason(procedures=[(f"p{at}", [], [], []) for at in range(many)]))
        for many in (0, 6):
            self.assertEqual(reason(procedures=[(f"p{at}", [], [], []) for at in range(many)]), "procedures")

    def test_variables(self):
        self.assertIsNone(reason(variables=variables_named("abcd")))
        self.assertEqual(reason(variables=variables_named("abcde")), "variables")
        self.assertIsNone(reason(inner=variables_named("abc")))
        self.assertEqual(reason(inner=variables_named("abcd")), "variables")
        self.assertIsNone(reason(others=[("p", variables_named("abc"), variables_named("def"), [])]))
        self.assertEqual(reason(others=[("p", variables_named("abcd"), [], [])]), "variables")
        self.assertEqual(reason(others=[("p", [], variables_named("abcd"), [])]), "variables")

    def test_size(self):
        for size in (2, 3, 4):
            self.assertIsNone(reason(variables=[("g", size)], others=[("p", [("a", size)], [], [])]))
            self.assertIsNone(reason(inner=[("x", size)]))
        for size in (0, 1, 5, -3):
            self.assertEqual(reason(variables=[("g", size)]), "size")
            self.assertEqual(reason(inner=[("g", size)]), "size")
            self.assertEqual(reason(others=[("p", [("a", size)], [], [])]), "size")
            self.assertEqual(reason(others=[("p", [], [("a", size)], [])]), "size")

    def test_sights(self):
        self.assertIsNone(reason(variables=variables_named("abcd"), inner=variables_named("ef")))
        self.assertEqual(reason(variables=variables_named("abcd"), inner=variables_named("efg")), "sights")
        self.assertIsNone(reason(inner=variables_named("abc", 4)))
        self.assertEqual(reason(variables=[("g", 2)], inner=variables_named("abc", 4)), "sights")
        self.assertIsNone(reason(variables=[("a", 3), ("b", 3), ("c", 3)], inner=[("d", 2)]))
        self.assertEqual(reason(variables=[("a", 3), ("b", 3), ("c", 3)], inner=[("d", 3)]), "sights")
        many = ("p", variables_named("abc", 3), variables_named("de"), [])
        self.assertEqual(reason(others=[many]), "sights")

    def test_main(self):
        self.assertEqual(reason(parameters=[("a", 2)]), "main")
        self.assertIsNone(reason(others=[("p", [("a", 2)], [], [])]))

    def test_statements(self):
        self.assertIsNone(reason(body=[SKIP] * 60))
        self.assertEqual(reason(body=[SKIP] * 61), "statements")
        self.assertIsNone(reason(body=[SKIP] * 30, others=[("p", [], [], [SKIP] * 30)]))
        self.assertEqual(reason(body=[SKIP] * 30, others=[("p", [], [], [SKIP] * 31)]), "statements")
        inside = [("if", ONE, [SKIP] * 20, [SKIP] * 20), ("while", ONE, [SKIP] * 17)]
        self.assertIsNone(reason(body=inside + [SKIP]))
        self.assertEqual(reason(body=inside + [SKIP] * 2), "statements")

    def test_nesting(self):
        for word in ("if", "while"):
            self.assertIsNone(reason(body=nest(6, word)))
            self.assertEqual(reason(body=nest(7, word)), "nesting")
            self.assertEqual(reason(others=[("p", [], [], nest(8, word))]), "nesting")
        # A body that is empty has no statement, so it adds no depth.
        self.assertIsNone(reason(body=[("if", ONE, nest(5), nest(5))]))
        self.assertEqual(reason(body=[("if", ONE, nest(5), nest(6))]), "nesting")

    def test_depth(self):
        statements = [
            lambda e: ("set", "x", e), lambda e: ("write", e), lambda e: ("if", e, [], []),
            lambda e: ("while", e, []), lambda e: ("call", "p", [ONE, e]), lambda e: ("if", ONE, [], [("write", e)]),
        ]
        others = [("p", variables_named("ab"), [], [])]
        for made in statements:
            self.assertIsNone(reason(body=[made(deep(5))], inner=[("x", 2)], others=others))
            self.assertEqual(reason(body=[made(deep(6))], inner=[("x", 2)], others=others), "depth")
        self.assertEqual(reason(body=[("write", ("and", deep(5), ONE))]), "depth")
        self.assertEqual(reason(body=[("write", ("and", ONE, deep(5)))]), "depth")
        self.assertIsNone(reason(body=[("write", ("and", deep(4), deep(4)))]))

    def test_number(self):
        for number in (0, 9):
            self.assertIsNone(reason(body=[("write", ("number", number))]))
        for number in (10, -1, 9999):
            self.assertEqual(reason(body=[("write", ("number", number))]), "number")
            self.assertEqual(reason(body=[("while", ONE, [("write", ("+", ONE, ("number", number)))])]), "number")

    def test_far_beyond_the_bounds(self):
        self.assertEqual(reason(body=nest(3000)), "statements")
        self.assertEqual(reason(body=[("write", deep(3000))]), "depth")
        self.assertEqual(reason(body=nest(59)), "nesting")


class NamesTest(unittest.TestCase):
    def reasons(self, name):
        """The reasons with the name for a global, a procedure, a parameter and a local."""
        return {
            reason(variables=[(name, 2)]),
            reason(procedures=[(name, [], [], [])]),
            reason(others=[(name, [], [], [])]),
            reason(others=[("p", [(name, 2)], [], [])]),
            reason(inner=[(name, 2)]),
        }

    def test_names(self):
        for name in ("a", "z", "a1", "abcdefgh", "a1234567", "to", "state", "over", "finish", "silent", "iff", "end1"):
            self.assertEqual(self.reasons(name), {None}, name)

    def test_what_is_no_name(self):
        wrong = ["", "A", "aB", "1a", "1", "abcdefghi", "a_b", "_a", "a b", "a-", " a", "a ", "a\n", "\ta", "~", "a."]
        for name in wrong + KEYWORDS:
            self.assertEqual(self.reasons(name), {"name"}, name)

    def test_twice(self):
        self.assertEqual(reason(others=[("main", [], [], [])]), "twice")
        self.assertEqual(reason(others=[("p", [], [], []), ("p", [], [], [])]), "twice")
        self.assertEqual(reason(variables=variables_named("aa")), "twice")
        self.assertEqual(reason(variables=[("a", 2)], inner=[("a", 3)]), "twice")
        self.assertEqual(reason(variables=[("a", 2)], others=[("p", [("a", 2)], [], [])]), "twice")
        self.assertEqual(reason(inner=variables_named("aba")), "twice")
        self.assertEqual(reason(others=[("p", [("a", 2)], [("a", 2)], [])]), "twice")
        self.assertEqual(reason(others=[("p", [("a", 2), ("a", 2)], [], [])]), "twice")

    def test_a_name_may_stand_again_elsewhere(self):
        self.assertIsNone(reason(variables=[("main", 2)], inner=[("p", 2)], others=[("p", [("q", 2)], [], [])]))
        others = [("p", [("a", 3)], [("b", 2)], []), ("q", [], [("a", 4)], [])]
        self.assertIsNone(reason(inner=[("a", 2)], others=others))


class MeaningTest(unittest.TestCase):
    def test_unknown_variables(self):
        x = ("name", "x")
        bodies = [
            [("set", "x", ONE)], [("read", "x")], [("set", "y", x)], [("write", x)], [("if", x, [], [])],
            [("while", x, [])], [("call", "p", [x])], [("while", ONE, [("if", ONE, [], [("write", ("not", x))])])],
            [("write", ("+", ONE, ("*", ONE, x)))],
        ]
        others = [("p", [("a", 2)], [], [])]
        for body in bodies:
            self.assertEqual(reason(body=body, inner=[("y", 2)], others=others), "unknown", body)
            self.assertIsNone(reason(body=body, inner=[("y", 2), ("x", 2)], others=others), body)
            self.assertIsNone(reason(body=body, inner=[("y", 2)], variables=[("x", 2)], others=others), body)

    def test_variables_of_other_procedures_are_unknown(self):
        for body in ([("write", ("name", "a"))], [("write", ("name", "b"))]):
            self.assertEqual(reason(body=body, others=[("p", [("a", 2)], [("b", 2)], [])]), "unknown")
            self.assertIsNone(reason(others=[("p", [("a", 2)], [("b", 2)], body)]))
        self.assertEqual(reason(inner=[("x", 2)], others=[("p", [], [], [("set", "x", ONE)])]), "unknown")

    def test_procedures_are_no_variables(self):
        self.assertEqual(reason(body=[("write", ("name", "main"))]), "unknown")
        self.assertEqual(reason(body=[("call", "x", [])], inner=[("x", 2)]), "unknown")

    def test_calls(self):
        for many in range(4):
            others = [("p", variables_named("abc"[:many]), [], [])]
            for given in range(5):
                expected = None if given == many else "call"
                self.assertEqual(reason(body=[("call", "p", [ONE] * given)], others=others), expected)
        self.assertEqual(reason(body=[("call", "main", [])]), "call")
        self.assertEqual(reason(others=[("p", [], [], [("while", ONE, [("call", "main", [])])])]), "call")
        self.assertIsNone(reason(others=[("p", [], [], [("call", "p", [])])]))
        self.assertIsNone(reason(others=[("p", [], [], [("call", "q", [])]), ("q", [], [], [("call", "p", [])])]))
        self.assertEqual(reason(body=[("call", "q", [])]), "unknown")

    def test_read(self):
        for letters in (1, 2, 3):
            for size in (2, 3, 4):
                expected = None if size >= letters + 1 else "read"
                self.assertEqual(reason(letters=letters, body=[("read", "x")], inner=[("x", size)]), expected)
                self.assertEqual(reason(letters=letters, body=[("read", "x")], variables=[("x", size)]), expected)
        inside = [("while", ONE, [("if", ONE, [], [("read", "a")])])]
        self.assertEqual(reason(letters=2, others=[("p", [("a", 2)], [], inside)]), "read")
        self.assertIsNone(reason(letters=3, inner=[("x", 2)], body=[("set", "x", ONE)]))


class OrderTest(unittest.TestCase):
    def test_the_earlier_reason_is_raised(self):
        # Each fault can be put into one program beside each other fault.
        faults = [
            ("letters", {"letters": 9}), ("answers", {"answers": 9}), ("procedures", {"more": 6}),
            ("variables", {"local": variables_named("abcd")}), ("name", {"local": [("A", 2)]}),
            ("twice", {"local": variables_named("xx")}), ("size", {"local": [("x", 1)]}),
            ("sights", {"local": variables_named("xyz", 4)}), ("main", {"parameters": [("m", 2)]}),
            ("statements", {"body": [SKIP] * 61}), ("nesting", {"body": nest(7)}),
            ("depth", {"body": [("write", deep(6))]}), ("number", {"body": [("write", ("number", 10))]}),
            ("unknown", {"body": [("write", ("name", "none"))]}), ("call", {"body": [("call", "main", [])]}),
            ("read", {"body": [("read", "small")]}),
        ]
        for index, (first, one) in enumerate(faults):
            self.assertEqual(self.reason_of([one]), first)
            for second, other in faults[index + 1:]:
                self.assertEqual(self.reason_of([one, other]), first, second)
                self.assertEqual(self.reason_of([other, one]), first, second)

    def reason_of(self, faults):
        """The reason of a program that has all of these faults, each in a procedure of its own."""
        settings = {}
        parameters = []
        procedures = []
        more = 0
        for at, fault in enumerate(faults):
            settings.update({name: fault[name] for name in ("letters", "answers") if name in fault})
            parameters = parameters + fault.get("parameters", [])
            more = max(more, fault.get("more", 0))
            if "local" in fault or "body" in fault:
                procedures.append((f"p{at}", [], fault.get("local", []), fault.get("body", [])))
        procedures.extend((f"q{at}", [], [], []) for at in range(more))
        settings["variables"] = [("big", 2), ("small", 2)]
        return reason(letters=settings.pop("letters", 2), parameters=parameters, others=procedures, **settings)

    def test_each_reason_is_looked_for_in_the_whole_program(self):
        first = ("main", [], [], [("write", ("name", "none")), ("call", "main", [])])
        second = ("p", [], [], [("write", ("number", 10))])
        self.assertEqual(reason(procedures=[first, second]), "number")
        self.assertEqual(reason(procedures=[first, ("p", [], [("x", 1)], [])]), "size")
        self.assertEqual(reason(procedures=[first, ("main", [], [("x", 1)], [])]), "twice")
        self.assertEqual(reason(procedures=[("main", [("a", 2)], [], nest(7)), second]), "main")

    def test_the_form_is_checked_first(self):
        with self.assertRaises(MendError) as caught:
            parse_program("letters 9 answers 2 proc main() write end")
        self.assertEqual(type(caught.exception).__name__, "InvalidText")
        with self.assertRaises(InvalidProgram) as caught:
            parse_program("letters 9 answers 2 proc main() write 10 end")
        self.assertEqual(caught.exception.reason, "letters")


if __name__ == "__main__":
    unittest.main()
