import copy
import unittest

from allmends.notation import parse_expression, parse_program, print_program
from allmends.programs import Program
from tests.samples import SOURCE, has_only_tuples


def nested_lists():
    """The arguments of a program with a list in the place of every sequence."""
    test = ("<", ("name", "x"), ("number", 2))
    body = [
        ("if", test, [("write", ("number", 1)), ("skip",)], [("set", "x", ("number", 1))]),
        ("while", test, [("call", "p", [("name", "x"), ("number", 1)])]),
        ("read", "x"),
    ]
    inner = [("main", [], [("x", 4)], body), ("p", [("a", 2), ("b", 3)], [("c", 2)], [])]
    return [2, 3, [("g", 3)], inner]


def with_tuples(value):
    if isinstance(value, (list, tuple)):
        return tuple(with_tuples(part) for part in value)
    return value


def told(program):
    """All that a program tells."""
    many = range(len(program.procedures))
    return (
        program.letters, program.answers, program.variables, program.procedures, program.places,
        [program.names(number) for number in many], [program.sizes(number) for number in many],
        [program.sights(number) for number in many], [program.points(number) for number in many],
        [program.value_at(at, sight) for at, row in enumerate(program.places) for sight in program.sights(row[0])],
    )


class CopiesTest(unittest.TestCase):
    def test_lists_and_tuples_do_the_same(self):
        lists = nested_lists()
        self.assertEqual(told(Program(*lists)), told(Program(*with_tuples(lists))))

    def test_arguments_are_not_modified(self):
        lists = nested_lists()
        before = copy.deepcopy(lists)
        told(Program(*lists))
        self.assertEqual(lists, before)

    def test_lists_that_are_changed_later_have_no_effect(self):
        lists = nested_lists()
        program = Program(*lists)
        before = told(program)
        text = print_program(program)
        procedures = lists[3]
        main = procedures[0]
        main[3][0][2].append(("skip",))
        main[3][0][3].clear()
        main[3][1][2][0][2].append(("number", 0))
        main[3][1][2].append(("skip",))
        main[3].clear()
        main[2].append(("y", 2))
        main[1].append(("z", 2))
        procedures[1][1].clear()
        procedures[1][2].clear()
        procedures.pop()
        lists[2].clear()
        self.assertEqual(told(program), before)
        self.assertEqual(print_program(program), text)

    def test_everything_that_is_told_has_tuples(self):
        program = Program(*nested_lists())
        for value in (program.variables, program.procedures, program.places):
            self.assertTrue(has_only_tuples(value), value)
        for number in range(2):
            for found in (program.names, program.sizes, program.sights, program.points):
                self.assertTrue(has_only_tuples(found(number)), found(number))
        parsed = parse_program(print_program(program))
        for value in (parsed.variables, parsed.procedures, parsed.places, parse_expression("a + b * (1 - c)")):
            self.assertTrue(has_only_tuples(value), value)

    def test_pairs_that_are_lists_become_tuples(self):
        program = Program(1, 2, [["g", 2]], [["main", [], [["x", 2]], [["write", ["name", "x"]]]]])
        self.assertEqual(program.variables, (("g", 2),))
        self.assertEqual(program.procedures, (("main", (), (("x", 2),), (("write", ("name", "x")),)),))
        self.assertEqual(program.places, ((0, "write", 2, ("name", "x")),))

    def test_two_programs_in_turn(self):
        first = parse_program(SOURCE)
        before = told(first)
        second = Program(*nested_lists())
        other = told(second)
        self.assertEqual(told(first), before)
        self.assertEqual(told(second), other)
        self.assertEqual(told(parse_program(SOURCE)), before)
        self.assertNotEqual(before, other)


if __name__ == "__main__":
    unittest.main()
