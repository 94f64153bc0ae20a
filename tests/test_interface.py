"""The examples of the document's interface, and the names and arguments that it lists."""

import importlib
import inspect
import unittest

from allmends.notation import parse_expression, print_program
from allmends.programs import value_of
from tests.samples import sample_contract, sample_program

SIGNATURES = {
    "programs": {
        "Program": "letters, answers, variables, procedures", "Program.names": "self, procedure",
        "Program.sizes": "self, procedure", "Program.sights": "self, procedure", "Program.points": "self, procedure",
        "Program.value_at": "self, place, sight", "value_of": "expression, names, sight",
    },
    "notation": {
        "parse_program": "text", "print_program": "program", "parse_expression": "text",
        "print_expression": "expression",
    },
    "contracts": {
        "Contract": "letters, answers, states", "Contract.follow": "self, state, event",
        "Contract.with_row": "self, state, event, target",
        "Contract.with_flags": "self, state, *, finish=None, silence=None", "both": "first, second",
    },
    "tables": {"parse_contract": "text", "print_contract": "contract"},
    "changes": {
        "Change": "places, entries=()", "Change.value": "self, place, sight",
        "Change.with_entry": "self, place, sight, value", "Change.fits": "self, program",
        "Change.__iter__": "self", "Change.__len__": "self", "Change.__contains__": None, "Change.__eq__": None,
        "turned": "program, change",
    },
    "bounds": {"weight": "program, contract"},
}


class ExamplesTest(unittest.TestCase):
    def test_programs(self):
        program = sample_program()
        self.assertEqual(program.places, ((0, "set", 3, ("number", 0)), (0, "write", 2, ("number", 0))))
        self.assertEqual(program.points(0), (("read", 0, 1), ("set", 0, 0, 2), ("write", 1, 3), ("end",)))
        self.assertEqual(value_of(("-", ("name", "x"), ("number", 2)), ["x"], (1,)), -1)

    def test_notation(self):
        self.assertEqual(
            print_program(sample_program()),
            "letters 2\nanswers 2\nproc main()\n  local x 3\n  read x\n  x = 0\n  write 0\nend\n",
        )
        self.assertEqual(
            parse_expression("a - (b - 1) * 2"),
            ("-", ("name", "a"), ("*", ("-", ("name", "b"), ("number", 1)), ("number", 2))),
        )

    def test_contracts(self):
        self.assertEqual(sample_contract().follow(2, ("write", 1)), 4)
        self.assertIsNone(sample_contract().follow(2, ("write", 0)))


class SignaturesTest(unittest.TestCase):
    def test_names_and_arguments(self):
        for file, listed in SIGNATURES.items():
            module = importlib.import_module(f"allmends.{file}")
            for name, arguments in listed.items():
                found = module
                for part in name.split("."):
                    # What a class lists stands in the class itself, not in one above it.
                    found = vars(found)[part]
                self.assertEqual(found.__module__, f"allmends.{file}")
                if arguments is not None:
                    self.assertEqual(str(inspect.signature(found)), f"({arguments})")


if __name__ == "__main__":
    unittest.main()
