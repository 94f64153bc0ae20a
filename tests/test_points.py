import itertools
import unittest

from allmends.notation import parse_program
from tests.samples import body_program, has_only_tuples, sample_program

ZERO = ("number", 0)
ONE = ("number", 1)
X = ("name", "x")
WRITE = ("write", ONE)
SKIP = ("skip",)


class SightsTest(unittest.TestCase):
    def test_variables_in_sight_and_their_order(self):
        program = parse_program(
            "letters 1 answers 2 global g 3 global h 2 proc main() local z 2 local y 4 end "
            "proc p(b 2, a 2) local c 2 end proc q() end"
        )
        self.assertEqual(program.names(0), ("g", "h", "z", "y"))
        self.assertEqual(program.sizes(0), (3, 2, 2, 4))
        self.assertEqual(program.names(1), ("g", "h", "b", "a", "c"))
        self.assertEqual(program.sizes(1), (3, 2, 2, 2, 2))
        self.assertEqual(program.names(2), ("g", "h"))
        self.assertEqual(program.sizes(2), (3, 2))

    def test_sights_are_all_tuples_in_ascending_order(self):
        for sizes in ((), (2,), (3, 2), (2, 4, 3), (4, 4, 4)):
            program = body_program([], variables=[], inner=[(f"v{at}", size) for at, size in enumerate(sizes)])
            expected = tuple(itertools.product(*[range(size) for size in sizes]))
            self.assertEqual(program.sights(0), expected)
            self.assertEqual(list(expected), sorted(expected))

    def test_one_sight_without_variables(self):
        self.assertEqual(body_program([], variables=[], inner=[]).sights(0), ((),))

    def test_exactly_64_sights(self):
        program = body_program([], variables=[("a", 2), ("b", 2), ("c", 4)], inner=[("d", 4)])
        self.assertEqual(len(program.sights(0)), 64)
        self.assertEqual((program.sights(0)[0], program.sights(0)[-1]), ((0, 0, 0, 0), (1, 1, 3, 3)))

    def test_each_procedure_has_its_own_sights(self):
        program = parse_program("letters 1 answers 2 global g 2 proc main() end proc p(a 3) local b 2 end")
        self.assertEqual(program.sights(0), ((0,), (1,)))
        self.assertEqual(program.sights(1), tuple(itertools.product(range(2), range(3), range(2))))


class PointsTest(unittest.TestCase):
    def check(self, body, rows):
        program = body_program(body, variables=[("g", 3)], inner=[("x", 4), ("y", 3)])
        self.assertEqual(program.points(0), rows)
        self.assertTrue(has_only_tuples(program.points(0)))

    def test_the_example(self):
        self.assertEqual(sample_program().points(0), (("read", 0, 1), ("set", 0, 0, 2), ("write", 1, 3), ("end",)))

    def test_an_empty_procedure(self):
        self.check([], (("end",),))

    def test_simple_statements_and_slots(self):
        self.check([SKIP, ("set", "x", ONE), ("read", "g"), ("set", "g", X), ("read", "y"), WRITE], (
            ("skip", 1), ("set", 1, 0, 2), ("read", 0, 3), ("set", 0, 1, 4), ("read", 2, 5), ("write", 2, 6), ("end",),
        ))

    def test_an_if_statement(self):
        self.check([("if", X, [WRITE], [SKIP, SKIP]), SKIP], (
            ("test", 0, 1, 2), ("write", 1, 4), ("skip", 3), ("skip", 4), ("skip", 5), ("end",),
        ))

    def test_an_if_statement_with_empty_bodies(self):
        self.check([("if", X, [], []), SKIP], (("test", 0, 1, 1), ("skip", 2), ("end",)))
        self.check([("if", X, [SKIP], [])], (("test", 0, 1, 2), ("skip", 2), ("end",)))
        self.check([("if", X, [], [SKIP])], (("test", 0, 2, 1), ("skip", 2), ("end",)))

    def test_a_while_statement(self):
        self.check([("while", X, [WRITE, SKIP]), SKIP], (
            ("test", 0, 1, 3), ("write", 1, 2), ("skip", 0), ("skip", 4), ("end",),
        ))

    def test_a_while_statement_with_an_empty_body(self):
        self.check([SKIP, ("while", X, []), SKIP], (("skip", 1), ("test", 0, 1, 2), ("skip", 3), ("end",)))
        self.check([("while", X, [])], (("test", 0, 0, 1), ("end",)))

    def test_if_at_the_end_of_a_while_body(self):
        self.check([("while", X, [SKIP, ("if", X, [SKIP], [])]), SKIP], (
            ("test", 0, 1, 4), ("skip", 2), ("test", 1, 3, 0), ("skip", 0), ("skip", 5), ("end",),
        ))
        self.check([("while", X, [("if", X, [], [])])], (("test", 0, 1, 2), ("test", 1, 0, 0), ("end",)))

    def test_while_at_the_end_of_a_while_body(self):
        self.check([("while", X, [("while", X, [SKIP])]), SKIP], (
            ("test", 0, 1, 3), ("test", 1, 2, 0), ("skip", 1), ("skip", 4), ("end",),
        ))
        self.check([("while", X, [("while", X, [])])], (("test", 0, 1, 2), ("test", 1, 1, 0), ("end",)))

    def test_while_and_if_at_the_end_of_an_if_body(self):
        self.check([("if", X, [("while", X, [SKIP])], [("if", X, [], [SKIP])]), WRITE], (
            ("test", 0, 1, 3), ("test", 1, 2, 5), ("skip", 1), ("test", 2, 5, 4), ("skip", 5), ("write", 3, 6),
            ("end",),
        ))

    def test_an_if_in_an_if_at_the_end_of_a_while_body(self):
        self.check([("while", X, [("if", X, [("if", X, [], [SKIP])], [("while", X, [])])])], (
            ("test", 0, 1, 5), ("test", 1, 2, 4), ("test", 2, 0, 3), ("skip", 0), ("test", 3, 4, 0), ("end",),
        ))

    def test_deep_nesting(self):
        body = [SKIP]
        for at in range(5):
            body = [("while", X, body)] if at % 2 else [("if", X, [], body)]
        self.check(body, (
            ("test", 0, 6, 1), ("test", 1, 2, 6), ("test", 2, 1, 3), ("test", 3, 4, 1), ("test", 4, 3, 5),
            ("skip", 3), ("end",),
        ))

    def test_calls(self):
        program = parse_program(
            "letters 1 answers 2 proc main() local x 2 x = 1 call p(x) call q(1, x + 1, 0) call r() end "
            "proc r() call q(1, 0, 1) end proc q(a 2, b 3, c 4) call p(a) write b end proc p(a 2) skip end"
        )
        self.assertEqual(program.points(0), (
            ("set", 0, 0, 1), ("call", 3, (1,), 2), ("call", 2, (2, 3, 4), 3), ("call", 1, (), 4), ("end",),
        ))
        self.assertEqual(program.points(1), (("call", 2, (5, 6, 7), 1), ("end",)))
        self.assertEqual(program.points(2), (("call", 3, (8,), 1), ("write", 9, 2), ("end",)))
        self.assertEqual(program.points(3), (("skip", 1), ("end",)))

    def test_a_call_with_two_arguments_in_a_while_body(self):
        program = body_program(
            [("while", X, [("call", "p", [X, ONE])])], others=[("p", [("a", 2), ("b", 2)], [], [])],
        )
        self.assertEqual(program.points(0), (("test", 0, 1, 2), ("call", 1, (1, 2), 0), ("end",)))


class PlacesTest(unittest.TestCase):
    def test_the_example(self):
        self.assertEqual(sample_program().places, ((0, "set", 3, ZERO), (0, "write", 2, ZERO)))

    def test_roles_sizes_and_order(self):
        program = parse_program(
            "letters 2 answers 4 global g 2 "
            "proc main() local x 4 read x g = x + 1 if g then write x else x = 2 end "
            "while not x do call p(1, g, x) end write 0 end "
            "proc p(a 2, b 3, c 4) skip if a then end b = c call q() end proc q() write g end"
        )
        g, x = ("name", "g"), ("name", "x")
        self.assertEqual(program.places, (
            (0, "set", 2, ("+", x, ONE)), (0, "test", 2, g), (0, "write", 4, x), (0, "set", 4, ("number", 2)),
            (0, "test", 2, ("not", x)), (0, "pass", 2, ONE), (0, "pass", 3, g), (0, "pass", 4, x),
            (0, "write", 4, ZERO), (1, "test", 2, ("name", "a")), (1, "set", 3, ("name", "c")),
            (2, "write", 4, g),
        ))

    def test_the_test_comes_before_the_bodies(self):
        program = body_program([("if", X, [("write", ZERO)], [("while", ONE, [WRITE])])])
        self.assertEqual([row[3] for row in program.places], [X, ZERO, ONE, ONE])
        self.assertEqual([row[1] for row in program.places], ["test", "write", "test", "write"])

    def test_reads_and_skips_have_no_place(self):
        self.assertEqual(body_program([SKIP, ("read", "x"), SKIP]).places, ())

    def test_calls_with_up_to_three_arguments(self):
        for many in range(4):
            program = body_program(
                [("call", "p", [("number", at) for at in range(many)])], variables=[],
                others=[("p", [(f"a{at}", 4 - at) for at in range(many)], [], [])],
            )
            self.assertEqual(program.places, tuple((0, "pass", 4 - at, ("number", at)) for at in range(many)))
            self.assertEqual(program.points(0), (("call", 1, tuple(range(many)), 1), ("end",)))

    def test_the_size_of_a_set_is_that_of_its_own_variable(self):
        program = parse_program(
            "letters 1 answers 2 proc main() local x 3 x = 1 end proc p(y 4) local x 2 x = y y = x end"
        )
        self.assertEqual([row[:3] for row in program.places], [(0, "set", 3), (1, "set", 2), (1, "set", 4)])


class WalkTest(unittest.TestCase):
    """Walking over the points does the same as carrying out the statements."""

    def carry_out(self, body, values, told, left):
        """Carry out a body whose tests take one value after the other; tell the places that were met."""
        for statement in body:
            while left:
                left.pop()
                told.append(self.numbers[id(statement)])
                word = statement[0]
                if word == "if":
                    self.carry_out(statement[2] if values.pop() else statement[3], values, told, left)
                if word != "while" or not values.pop():
                    break
                self.carry_out(statement[2], values, told, left)

    def number(self, body):
        for statement in body:
            self.numbers[id(statement)] = len(self.numbers)
            for inner in statement[2:] if statement[0] in ("if", "while") else ():
                self.number(inner)

    def walk(self, rows, values, many):
        told = []
        point = 0
        while len(told) < many and rows[point] != ("end",):
            told.append(point)
            row = rows[point]
            point = row[-1]
            if row[0] == "test":
                point = row[2] if values.pop() else row[3]
        return told

    def bodies(self, depth):
        yield []
        if depth:
            inner = list(self.bodies(depth - 1))
            for first in inner:
                yield [("write", ZERO), ("while", ONE, first)]
                yield [("while", ONE, first), ("write", ZERO)]
                for second in inner[:4]:
                    yield [("if", ONE, first, second)]

    def test_all_small_bodies(self):
        for body in self.bodies(3):
            body = self.copied(body)
            self.numbers = {}
            self.number(body)
            rows = body_program(body).points(0)
            self.assertEqual(len(rows), len(self.numbers) + 1)
            for seed in range(1, 64, 5):
                values = [bool((seed * at + at // 3) % 3 % 2) for at in range(40)]
                told = []
                self.carry_out(body, list(values), told, [None] * 30)
                self.assertEqual(self.walk(rows, list(values), 30), told, body)

    def copied(self, body):
        """A copy in which no two statements are the same object."""
        found = []
        for statement in body:
            if statement[0] in ("if", "while"):
                found.append((*statement[:2], *[self.copied(inner) for inner in statement[2:]]))
            else:
                found.append(tuple(list(statement)))
        return found


if __name__ == "__main__":
    unittest.main()
