import itertools
import unittest

from allmends.bounds import weight
from allmends.contracts import Contract
from allmends.notation import parse_program
from tests.samples import open_state, sample_contract, sample_program


def weight_of(text, states=1):
    """The weight of the program with this text, under a contract of so many states."""
    program = parse_program(f"letters 1 answers 2 {text}")
    return weight(program, Contract(1, 2, [open_state()] * states))


class WeightTest(unittest.TestCase):
    def test_one_procedure(self):
        self.assertEqual(weight(sample_program(), sample_contract()), 4 * 3 * 5 * 2)
        self.assertEqual(weight_of("proc main() end"), 1 * 1 * 1 * 2)
        self.assertEqual(weight_of("proc main() skip skip if 1 then skip end end"), 5 * 2)
        self.assertEqual(weight_of("global g 3 proc main() local x 2 local y 4 write 1 end"), 2 * 24 * 2)

    def test_states(self):
        for states in range(1, 9):
            self.assertEqual(weight_of("global g 3 proc main() skip end", states), 2 * 3 * states * 2)
            self.assertEqual(
                weight_of("proc main() end proc p() end", states), states * 2 + (states * 2) * (states * 2),
            )

    def test_openings_of_other_procedures(self):
        # Two globals, two parameters, one local: E has the first four, N all five.
        text = "global g 2 global h 3 proc main() skip end proc p(a 2, b 2) local c 2 skip skip end"
        self.assertEqual(weight_of(text, 3), 2 * 6 * 3 * 2 + (2 * 3 * 2 * 2 * 3 * 2) * (3 * 48 * 3 * 2))

    def test_parameters_without_globals(self):
        text = "proc main() end proc p(a 3, b 4) local c 2 end"
        self.assertEqual(weight_of(text, 2), 1 * 4 + (12 * 2 * 2) * (1 * 24 * 2 * 2))

    def test_locals_alone(self):
        text = "global g 2 proc main() local x 4 end proc p() local y 3 local z 2 skip end"
        self.assertEqual(weight_of(text), 8 * 2 + (2 * 2) * (2 * 12 * 2))

    def test_procedures_that_are_never_called_count(self):
        parts = [
            "proc main() call p(1) end", "proc p(a 2) call p(a) end", "proc q() local x 3 end", "proc r(b 4) skip end",
        ]
        one = 2 * 1 * 2
        others = [(2 * 2) * (2 * 2 * 2), 2 * (1 * 3 * 2), (4 * 2) * (2 * 4 * 2)]
        self.assertEqual(weight_of(" ".join(parts)), one + sum(others))
        for kept in itertools.combinations(range(1, 4), 2):
            if 1 in kept:
                text = " ".join([parts[0]] + [parts[at] for at in kept])
                self.assertEqual(weight_of(text), one + sum(others[at - 1] for at in kept))

    def test_letters_do_not_count(self):
        program = parse_program("letters 3 answers 4 proc main() local x 4 read x end")
        self.assertEqual(weight(program, Contract(3, 4, [open_state(3, 4)] * 2)), 2 * 4 * 2 * 2)

    def test_the_heaviest_procedure(self):
        inner = "global a 4 global b 4 proc main() end proc p(c 4) " + "skip " * 60 + "end"
        self.assertEqual(weight_of(inner, 8), 1 * 16 * 16 + (64 * 16) * (61 * 64 * 16))


if __name__ == "__main__":
    unittest.main()
