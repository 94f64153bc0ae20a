"""Point 68: the bounds of free play, and plans and spoilings of programs near them."""

import unittest

from allmends.bounds import weight
from allmends.contracts import Contract
from allmends.errors import TooLarge
from allmends.notation import parse_program
from allmends.plans import plan_holds, spoiling_holds
from tests.samples import calling_pair, free_pair, open_contract, open_state

MAIN = (0, (0, 0), 0, False)


def straight_plan(many):
    """The plan of a program that writes so often, where each write is chosen to be 1."""
    moves = [((0, at, (0, 0), at % 5, False), (1,), ()) for at in range(many)]
    return ((MAIN, (), (*moves, ((0, many, (0, 0), many % 5, False), (), ()))),)


def straight_spoiling(many):
    """The spoiling of a program that writes 1 so often, and then a 0."""
    rows = [(MAIN, (), (0, many, (0, 0), many % 5, False), (("bad", ("write", 0)),))]
    for at in reversed(range(many)):
        node = (0, at, (0, 0), at % 5, False)
        go = ("go", ("write", 1), len(rows) - 1)
        rows.append((MAIN, (), node, (("bad", ("write", 0)), go)))
    return tuple(rows)


class WeightTest(unittest.TestCase):
    def test_a_weight_of_exactly_8000(self):
        program, contract = free_pair()
        self.assertEqual(weight(program, contract), 8000)
        plan = straight_plan(49)
        self.assertIs(plan_holds(program, contract, range(49), plan), True)
        self.assertIs(plan_holds(program, contract, range(48), plan), False)
        last = plan[0][2][48]
        wrong = plan[0][2][:48] + ((last[0], (0,), ()),) + plan[0][2][49:]
        self.assertIs(plan_holds(program, contract, range(49), ((MAIN, (), wrong),)), False)
        spoiling = straight_spoiling(48)
        self.assertIs(spoiling_holds(program, contract, range(48), spoiling), True)
        self.assertIs(spoiling_holds(program, contract, range(49), spoiling), False)

    def test_a_weight_beyond_8000(self):
        program, contract = free_pair(50)
        self.assertEqual(weight(program, contract), 8160)
        for holds in (plan_holds, spoiling_holds):
            with self.assertRaises(TooLarge) as caught:
                holds(program, contract, [0], ())
            self.assertEqual(caught.exception.what, "weight")

    def test_a_program_that_calls(self):
        program, contract = calling_pair()
        self.assertEqual(weight(program, contract), 8000)
        opening, called = (0, (0,), 0, False), (1, (0,), 0, False)
        outcome = ((1,), 0, False)
        inner = [((1, at, (at % 4,), 0, False), (), ()) for at in range(30)]
        outer = [
            ((0, 0, (0,), 0, False), (), (outcome,)), ((0, 1, (1,), 0, False), (), ()),
            *[((0, at, (1,), 1, False), (), ()) for at in range(2, 20)],
        ]
        plan = ((opening, (), outer), (called, (outcome,), inner))
        self.assertIs(plan_holds(program, contract, [], plan), True)
        self.assertIs(plan_holds(program, contract, [], ((opening, (), outer), (called, (outcome,), inner[:-1]))), False)
        strict = contract.with_flags(1, finish=False)
        self.assertIs(plan_holds(program, strict, [], plan), False)
        rows = [(called, (outcome,), inner[29][0], (("outcome",),))]
        for at in reversed(range(29)):
            rows.append((called, (outcome,), inner[at][0], (("go", None, len(rows) - 1),)))
        rows.append((opening, (), outer[19][0], (("finish",),)))
        for at in reversed(range(1, 19)):
            event = ("write", 1) if at == 1 else None
            rows.append((opening, (), outer[at][0], (("go", event, len(rows) - 1),)))
        rows.append((opening, (), outer[0][0], (("call", 29, (len(rows) - 1,)),)))
        self.assertIs(spoiling_holds(program, strict, [], rows), True)
        self.assertIs(spoiling_holds(program, contract, [], rows), False)
        longer, same = calling_pair(30)
        for holds in (plan_holds, spoiling_holds):
            with self.assertRaises(TooLarge) as caught:
                holds(longer, same, [], ())
            self.assertEqual(caught.exception.what, "weight")


class OutcomesTest(unittest.TestCase):
    CASES = (
        ("global g 4 global h 3", 1, True), ("global g 4 global h 4", 1, False), ("global g 3", 4, True),
        ("global g 3", 5, False), ("global f 2 global g 2 global h 3", 1, True), ("", 8, True),
        ("global f 2 global g 2 global h 2", 2, False), ("global g 4 global h 3", 2, False),
    )

    def test_24_and_more(self):
        for variables, states, fits in self.CASES:
            program = parse_program(f"letters 1 answers 2 {variables} proc main() end proc p() end")
            contract = Contract(1, 2, [open_state()] * states)
            self.assertLessEqual(weight(program, contract), 8000)
            for holds in (plan_holds, spoiling_holds):
                if fits:
                    self.assertIs(holds(program, contract, [], ()), False)
                else:
                    with self.assertRaises(TooLarge) as caught:
                        holds(program, contract, [], ())
                    self.assertEqual(caught.exception.what, "outcomes")

    def test_one_procedure_beyond_24_is_not_refused(self):
        program = parse_program("letters 1 answers 2 global f 4 global g 4 global h 4 proc main() write f end")
        contract = Contract(1, 2, [open_state()] * 8)
        main = (0, (0, 0, 0), 0, False)
        plan = ((main, (), (((0, 0, (0, 0, 0), 0, False), (), ()), ((0, 1, (0, 0, 0), 0, False), (), ()))),)
        self.assertIs(plan_holds(program, contract, [], plan), True)
        strict = contract.with_row(0, ("write", 0), None)
        rows = ((main, (), (0, 0, (0, 0, 0), 0, False), (("bad", ("write", 0)),)),)
        self.assertIs(spoiling_holds(program, strict, [], rows), True)
        self.assertIs(spoiling_holds(program, contract, [], rows), False)

    def test_a_procedure_that_is_never_called_counts(self):
        text = "letters 1 answers 2 global g 4 global h 4 proc main() write 0 end"
        self.assertIs(plan_holds(parse_program(text), open_contract(), [], ()), False)
        with self.assertRaises(TooLarge):
            plan_holds(parse_program(text + " proc p() end"), open_contract(), [], ())


if __name__ == "__main__":
    unittest.main()
