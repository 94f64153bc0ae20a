import unittest

from allmends.programs import value_of
from tests.samples import body_program

ONE = ("number", 1)
ZERO = ("number", 0)
FIVE = ("number", 5)
X = ("name", "x")
Y = ("name", "y")


class ValueOfTest(unittest.TestCase):
    def check(self, expression, value, names=("x", "y"), sight=(2, 3)):
        found = value_of(expression, names, sight)
        self.assertEqual((found, type(found)), (value, int), expression)

    def test_numbers_and_names(self):
        for number in range(10):
            self.check(("number", number), number)
        self.check(("number", 9999), 9999)
        self.check(X, 2)
        self.check(Y, 3)
        self.check(("name", "a_long_name"), 1, ["y", "a_long_name"], [0, 1])

    def test_lists_and_tuples_do_the_same(self):
        for names in (["x", "y"], ("x", "y")):
            for sight in ([1, 3], (1, 3)):
                self.check(("-", X, Y), -2, names, sight)

    def test_not(self):
        self.check(("not", ZERO), 1)
        self.check(("not", ONE), 0)
        self.check(("not", FIVE), 0)
        self.check(("not", ("-", ZERO, ONE)), 0)

    def test_arithmetic(self):
        self.check(("+", X, Y), 5)
        self.check(("-", X, Y), -1)
        self.check(("-", Y, X), 1)
        self.check(("*", X, Y), 6)
        self.check(("*", ("-", ZERO, X), Y), -6)
        self.check(("-", ("-", ZERO, FIVE), FIVE), -10)

    def test_comparisons(self):
        for left in range(3):
            for right in range(3):
                self.check(("==", ("number", left), ("number", right)), 1 if left == right else 0)
                self.check(("<", ("number", left), ("number", right)), 1 if left < right else 0)
        self.check(("<", ("-", ZERO, ONE), ZERO), 1)

    def test_and_and_or(self):
        values = {0: ZERO, 1: ONE, 5: FIVE, -1: ("-", ZERO, ONE)}
        for left, first in values.items():
            for right, second in values.items():
                self.check(("and", first, second), 1 if left and right else 0)
                self.check(("or", first, second), 1 if left or right else 0)

    def test_nested_values_are_not_reduced(self):
        self.check(("+", ("*", ("number", 9), ("number", 9)), ("-", X, FIVE)), 78)

    def test_forty_operators(self):
        left = X
        right = X
        for _ in range(40):
            left = ("+", left, ONE)
            right = ("+", ONE, right)
        self.check(left, 42)
        self.check(right, 42)


class ValueAtTest(unittest.TestCase):
    def value(self, statement, sight, **more):
        return body_program([statement], **more).value_at(0, sight)

    def test_set_is_reduced_by_the_size_of_the_variable(self):
        for size in (2, 3, 4):
            for number in range(10):
                found = self.value(("set", "v", ("number", number)), (0, 0), inner=[("v", size)])
                self.assertEqual(found, number % size)
        self.assertEqual(self.value(("set", "g", ("-", ZERO, ONE)), (0, 0)), 2)
        self.assertEqual(self.value(("set", "x", ("-", ZERO, FIVE)), (0, 0)), 3)

    def test_write_is_reduced_by_the_answers(self):
        for answers in (2, 3, 4):
            self.assertEqual(self.value(("write", ("number", 7)), (0, 0), answers=answers), 7 % answers)
            self.assertEqual(self.value(("write", ("-", ZERO, ONE)), (0, 0), answers=answers), answers - 1)

    def test_tests_are_not_reduced(self):
        for word in ("if", "while"):
            rest = ([], []) if word == "if" else ([],)
            for number in range(10):
                self.assertEqual(self.value((word, ("number", number), *rest), (0, 0)), 1 if number else 0)
            self.assertEqual(self.value((word, ("-", ZERO, ("number", 2)), *rest), (0, 0)), 1)
            self.assertEqual(self.value((word, X, *rest), (2, 0)), 0)
            self.assertEqual(self.value((word, X, *rest), (0, 2)), 1)

    def test_arguments_are_reduced_by_the_size_of_their_parameter(self):
        program = body_program(
            [("call", "p", [("number", 7), ("-", ZERO, ONE), ("name", "x")])],
            others=[("p", [("a", 2), ("b", 3), ("c", 2)], [], [])],
        )
        self.assertEqual([program.value_at(place, (0, 3)) for place in range(3)], [1, 2, 1])

    def test_each_procedure_has_its_own_sight(self):
        program = body_program(
            [("write", ("name", "x"))],
            variables=[("g", 2)],
            others=[("p", [("a", 3)], [("x", 3)], [("write", ("name", "x")), ("write", ("name", "g"))])],
        )
        self.assertEqual(program.value_at(0, (1, 2)), 2)
        self.assertEqual(program.value_at(1, (1, 0, 2)), 2)
        self.assertEqual(program.value_at(1, (1, 2, 0)), 0)
        self.assertEqual(program.value_at(2, (1, 2, 0)), 1)

    def test_a_procedure_without_variables(self):
        program = body_program([("write", FIVE)], variables=[], inner=[])
        self.assertEqual(program.value_at(0, ()), 2)


if __name__ == "__main__":
    unittest.main()
