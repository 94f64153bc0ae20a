"""Points 28 and 29: the run step by step, and when it repeats."""

import unittest

from allmends.contracts import Contract
from allmends.notation import parse_program
from allmends.runs import run
from tests.samples import open_contract, open_state


def told(text, stream=(), contract=None):
    program = parse_program(text)
    if contract is None:
        contract = open_contract(program.letters, program.answers)
    return run(program, contract, stream)


def written(text, stream=()):
    """The letters that a program writes."""
    return [event[1] for event in told(text, stream).events if event[0] == "write"]


class StatementsTest(unittest.TestCase):
    def test_the_empty_program_makes_one_step(self):
        found = told("letters 1 answers 2 proc main() end")
        self.assertEqual((found.verdict, found.steps, found.events, found.met), ("finished", 1, (), ()))

    def test_variables_begin_with_zero(self):
        text = "letters 1 answers 4 global g 4 proc main() local x 4 write g write x end"
        self.assertEqual(written(text), [0, 0])

    def test_set_takes_the_value_of_the_place(self):
        text = "letters 1 answers 4 global g 3 proc main() g = 5 write g g = g - 3 write g end"
        self.assertEqual(written(text), [2, 2])

    def test_write_takes_the_value_of_the_place(self):
        self.assertEqual(written("letters 1 answers 3 proc main() write 7 write 0 - 1 end"), [1, 2])

    def test_skip_is_a_step_that_does_nothing(self):
        found = told("letters 1 answers 2 proc main() skip skip end")
        self.assertEqual((found.verdict, found.steps, found.events, found.met), ("finished", 3, (), ()))

    def test_test_of_an_if(self):
        text = "letters 1 answers 4 proc main() if {} then write 1 else write 2 end write 3 end"
        self.assertEqual(written(text.format("0 - 4")), [1, 3])
        self.assertEqual(written(text.format("2")), [1, 3])
        self.assertEqual(written(text.format("1 - 1")), [2, 3])

    def test_if_with_empty_bodies(self):
        found = told("letters 1 answers 2 proc main() if 1 then end if 0 then end end")
        self.assertEqual((found.steps, found.met), (3, ((0, ()), (1, ()))))

    def test_while_looks_at_its_test_before_each_round(self):
        text = "letters 1 answers 4 global g 4 proc main() while g < {} do write g g = g + 1 end write 3 end"
        self.assertEqual(written(text.format(3)), [0, 1, 2, 3])
        self.assertEqual(written(text.format(0)), [3])
        self.assertEqual(told(text.format(2)).steps, 3 + 3 + 3)

    def test_read_takes_the_letters_in_order(self):
        text = "letters 3 answers 3 global g 4 proc main() read g write g read g write g end"
        found = told(text, [2, 1, 0])
        self.assertEqual(found.events, (("read", 2), ("write", 2), ("read", 1), ("write", 1)))
        self.assertEqual((found.taken, found.steps), (2, 5))

    def test_reads_behind_the_end(self):
        text = "letters 2 answers 4 global g 3 proc main() read g write g g = 0 read g write g g = 1 read g write g end"
        self.assertEqual(
            told(text).events, (("over",), ("write", 2), ("write", 2), ("write", 2))
        )
        found = told(text, (1,))
        self.assertEqual(found.events, (("read", 1), ("write", 1), ("over",), ("write", 2), ("write", 2)))
        self.assertEqual((found.taken, found.steps), (1, 9))
        found = told(text, (1, 0, 1))
        self.assertEqual((found.taken, len(found.events)), (3, 6))

    def test_a_later_read_behind_the_end_makes_no_event_in_the_contract(self):
        # The second "over" would be wrong.
        contract = Contract(1, 2, [([None], 1, [None] * 2, False, False), ([None], None, [None] * 2, True, False)])
        found = told("letters 1 answers 2 global g 2 proc main() read g read g end", (), contract)
        self.assertEqual((found.verdict, found.events, found.state), ("finished", (("over",),), 1))

    def test_the_state_follows_the_events(self):
        states = [([1, 2], 3, [4] * 2, True, True)] + [([0] * 2, 0, [0] * 2, True, True)] * 4
        contract = Contract(2, 2, states)
        text = "letters 2 answers 2 global g 3 proc main() {} end"
        self.assertEqual(told(text.format("read g"), [0], contract).state, 1)
        self.assertEqual(told(text.format("read g"), [1], contract).state, 2)
        self.assertEqual(told(text.format("read g"), [], contract).state, 3)
        self.assertEqual(told(text.format("write 1"), [], contract).state, 4)
        self.assertEqual(told(text.format("skip"), [], contract).state, 0)


class CallsTest(unittest.TestCase):
    def test_call_without_arguments(self):
        found = told("letters 1 answers 2 proc main() call p() write 0 end proc p() write 1 end")
        self.assertEqual((found.events, found.steps), ((("write", 1), ("write", 0)), 5))

    def test_arguments_in_their_order(self):
        head = "letters 1 answers 4 global g 2 proc main() local x 4 "
        self.assertEqual(written(head + "x = 3 call p(x) end proc p(a 4) write a end"), [3])
        self.assertEqual(written(head + "call p(1, 2) end proc p(a 4, b 4) write a write b end"), [1, 2])
        text = head + "x = 3 call p(x, x - 1, g) end proc p(a 4, b 4, c 2) write a write b write c end"
        self.assertEqual(written(text), [3, 2, 0])

    def test_arguments_are_reduced_by_the_parameters(self):
        text = "letters 1 answers 4 proc main() call p(7, 7) end proc p(a 3, b 2) write a write b end"
        self.assertEqual(written(text), [1, 1])

    def test_locals_of_each_call_begin_with_zero(self):
        text = (
            "letters 1 answers 4 proc main() local x 4 x = 2 call p() call p() write x end "
            "proc p() local x 4 local y 4 write x x = 3 y = 1 write x end"
        )
        self.assertEqual(written(text), [0, 3, 0, 3, 2])

    def test_the_caller_keeps_its_parameters_and_locals(self):
        text = (
            "letters 1 answers 4 proc main() call p(1) end "
            "proc p(a 4) local x 4 x = a + 1 call q() write a write x end proc q() local x 4 x = 3 end"
        )
        self.assertEqual(written(text), [1, 2])

    def test_globals_that_a_callee_changes(self):
        text = (
            "letters 1 answers 4 global g 4 global h 4 proc main() g = 1 call p() write g write h end "
            "proc p() write g g = 3 h = 2 end"
        )
        self.assertEqual(written(text), [1, 3, 2])

    def test_recursion(self):
        text = (
            "letters 1 answers 4 proc main() call p(3) end "
            "proc p(a 4) if a then call p(a - 1) end write a end"
        )
        self.assertEqual(written(text), [0, 1, 2, 3])

    def test_calls_that_call_each_other(self):
        text = (
            "letters 1 answers 2 global g 4 proc main() g = 3 call p() end "
            "proc p() write 1 if g then g = g - 1 call q() end end "
            "proc q() write 0 if g then g = g - 1 call p() end end"
        )
        self.assertEqual(written(text), [1, 0, 1, 0])

    def test_end_of_the_main_procedure_counts_as_a_step(self):
        found = told("letters 1 answers 2 proc main() call p() end proc p() end")
        self.assertEqual((found.verdict, found.steps), ("finished", 3))


class RepeatsTest(unittest.TestCase):
    def test_the_shortest_loop(self):
        found = told("letters 1 answers 2 proc main() while 1 do end end")
        self.assertEqual((found.verdict, found.steps), ("silent", 1))

    def test_stops_at_the_first_moment_that_repeats(self):
        found = told("letters 1 answers 2 proc main() skip while 1 do skip end end")
        self.assertEqual((found.verdict, found.steps), ("silent", 3))

    def test_another_sight_is_another_node(self):
        found = told("letters 1 answers 2 global g 4 proc main() while 1 do g = g + 1 end end")
        self.assertEqual((found.verdict, found.steps), ("silent", 8))

    def test_another_state_is_another_node(self):
        contract = Contract(1, 2, [([0], 0, [1, 1], True, True), ([0], 0, [2, 2], True, True),
                                   ([0], 0, [1, 1], True, True)])
        found = told("letters 1 answers 2 proc main() while 1 do write 0 end end", (), contract)
        self.assertEqual((found.verdict, found.steps, len(found.events)), ("endless", 6, 3))

    def test_another_number_of_letters_is_another_moment(self):
        text = "letters 1 answers 2 global g 2 proc main() while 1 do read g end end"
        found = told(text, [0] * 5)
        # Five rounds take a letter, one learns that the stream is over, one more repeats.
        self.assertEqual((found.verdict, found.taken, found.steps), ("silent", 5, 14))

    def test_over_makes_another_node(self):
        found = told("letters 1 answers 2 global g 2 proc main() g = 1 while 1 do read g end end")
        self.assertEqual((found.verdict, found.steps), ("silent", 1 + 4))

    def test_a_call_that_has_ended_does_not_repeat(self):
        text = "letters 1 answers 2 proc main() call p() call p() call p() end proc p() skip end"
        found = told(text)
        self.assertEqual((found.verdict, found.steps), ("finished", 10))

    def test_a_call_in_a_loop_repeats_in_the_caller(self):
        text = "letters 1 answers 2 proc main() while 1 do call p() end end proc p() skip skip end"
        found = told(text)
        self.assertEqual((found.verdict, found.steps), ("silent", 5))

    def test_repeats_inside_of_a_call(self):
        text = "letters 1 answers 2 proc main() call p() end proc p() call q() end proc q() while 1 do skip end end"
        found = told(text)
        self.assertEqual((found.verdict, found.steps), ("silent", 4))

    def test_calls_that_grow_for_ever(self):
        found = told("letters 1 answers 2 proc main() call p() end proc p() skip call p() end")
        self.assertEqual((found.verdict, found.steps), ("silent", 3))

    def test_calls_that_grow_with_arguments_that_change(self):
        found = told("letters 1 answers 2 proc main() call p(0) end proc p(a 4) call p(a + 1) end")
        self.assertEqual((found.verdict, found.steps), ("silent", 5))

    def test_calls_that_grow_and_write(self):
        found = told("letters 1 answers 2 proc main() call p() end proc p() write 1 call p() end")
        self.assertEqual((found.verdict, found.steps), ("endless", 3))

    def test_calls_that_grow_as_long_as_letters_come(self):
        text = "letters 1 answers 2 proc main() call p() end proc p() local x 2 read x if x == 0 then call p() end end"
        found = told(text, [0] * 30)
        self.assertEqual((found.verdict, found.taken, found.steps), ("finished", 30, 2 + 30 * 4 + 3))

    def test_calls_that_end_are_forgotten_although_open_ones_count(self):
        # The second call of q has the nodes of the first one, and then the loop of p repeats.
        text = (
            "letters 1 answers 2 global g 2 proc main() call p() end "
            "proc p() while 1 do call q() end end proc q() g = 1 - g end"
        )
        found = told(text)
        self.assertEqual((found.verdict, found.steps), ("silent", 1 + 8))

    def test_a_write_before_the_ring_does_not_count(self):
        found = told("letters 1 answers 2 proc main() write 1 while 1 do skip end end")
        self.assertEqual((found.verdict, found.steps), ("silent", 3))

    def test_a_long_run_without_a_repeat(self):
        # Three calls at each of seven depths, one moment behind the other.
        text = (
            "letters 1 answers 2 global g 4 proc main() call p(0, 0) end "
            "proc p(a 4, b 4) if b < 3 then call p(a, b + 1) call p(a, b + 1) else "
            "if a < 2 then call p(a + 1, 0) end end end"
        )
        found = told(text)
        self.assertEqual(found.verdict, "finished")
        self.assertGreater(found.steps, 1000)


class OpenStateTest(unittest.TestCase):
    def test_silence_is_that_of_the_state_in_which_it_repeats(self):
        contract = Contract(1, 2, [open_state(target=1, silence=True), open_state(target=1, silence=False)])
        text = "letters 1 answers 2 proc main() {} while 1 do skip end end"
        self.assertEqual(told(text.format(""), (), contract).verdict, "silent")
        self.assertEqual(told(text.format("write 0"), (), contract).verdict, "bad silence")


if __name__ == "__main__":
    unittest.main()
