"""Point 37: what the runs on all streams use."""

import unittest

from allmends.changes import Change
from allmends.contracts import Contract
from allmends.edits import Draft
from allmends.fates import decide
from allmends.notation import parse_program
from tests.samples import open_contract, sample_contract, sample_program

OVER = ("over",)


def uses(text, contract=None, change=None):
    program = parse_program(text)
    if contract is None:
        contract = open_contract(program.letters, program.answers)
    return decide(program, contract, change).uses


class UsesTest(unittest.TestCase):
    def test_of_a_fate_that_breaks(self):
        found = decide(sample_program(), sample_contract())
        self.assertEqual(found.word, "breaks")
        # Also of the runs on other streams than the least one, each up to its own stop.
        self.assertEqual(found.uses, (
            ((0, (0,)), (0, (1,)), (0, (2,)), (1, (0,))),
            ((0, OVER), (0, ("read", 0)), (0, ("read", 1)), (1, ("write", 0)), (2, ("write", 0)), (3, ("write", 0))),
            (("finish", 4), ("silence", 1), ("silence", 2), ("silence", 3), ("silence", 4)),
        ))

    def test_of_a_fate_that_asks(self):
        found = decide(sample_program(), sample_contract(), Change([1], [(1, (0,), 0)]).with_entry(1, (1,), 1))
        self.assertEqual(found.word, "breaks")
        found = decide(sample_program(), sample_contract(), Change([0], [(0, (0,), 0)]))
        self.assertEqual((found.word, found.asked), ("asks", ((0, (1,)), (0, (2,)))))
        self.assertEqual(found.uses, (
            ((1, (0,)),),
            ((0, OVER), (0, ("read", 0)), (0, ("read", 1)), (1, ("write", 0))),
            (("finish", 4), ("silence", 1), ("silence", 4)),
        ))

    def test_of_a_fate_that_keeps(self):
        text = "letters 1 answers 2 global g 2 proc main() read g if g then write 1 end end"
        self.assertEqual(uses(text), (
            ((0, (0,)), (0, (1,)), (1, (1,))),
            ((0, OVER), (0, ("read", 0)), (0, ("write", 1))),
            (("finish", 0), ("silence", 0)),
        ))

    def test_of_the_empty_program(self):
        self.assertEqual(
            uses("letters 1 answers 2 proc main() end"), ((), (), (("finish", 0), ("silence", 0)))
        )
        self.assertEqual(
            uses("letters 1 answers 2 proc main() end", open_contract(finish=False, silence=False)),
            ((), (), (("finish", 0), ("silence", 0))),
        )

    def test_places_of_the_change_are_left_out(self):
        text = "letters 1 answers 2 global g 2 proc main() g = 1 if g then write g end end"
        self.assertEqual(uses(text)[0], ((0, (0,)), (1, (1,)), (2, (1,))))
        self.assertEqual(uses(text, None, Change([1], [(1, (1,), 0)]))[0], ((0, (0,)),))
        self.assertEqual(uses(text, None, Change([1], [(1, (1,), 1)]))[0], ((0, (0,)), (2, (1,))))
        self.assertEqual(uses(text, None, Change([0, 2], [(0, (0,), 1)]))[0], ((1, (1,)),))

    def test_all_places_of_the_field_are_left_out(self):
        text = "letters 1 answers 2 global g 2 proc main() g = 1 if g then write g end end"
        self.assertEqual(uses(text, None, Draft([0, 1, 2], [(0, 0), (1, 0), (2, 0)]))[0], ())
        self.assertEqual(uses(text, None, Draft([1], [(1, 0)]))[0], ((0, (0,)), (2, (1,))))
        self.assertEqual(uses(text, None, Draft([0]))[0], ())

    def test_arguments_before_an_unset_one(self):
        text = "letters 1 answers 2 global g 2 proc main() read g call p(g, g, g) end proc p(a 2, b 2, c 2) skip end"
        self.assertEqual(uses(text, None, Change([1])), (
            ((0, (0,)), (0, (1,))),
            ((0, OVER), (0, ("read", 0))),
            (),
        ))
        self.assertEqual(uses(text, None, Change([0]))[0], ())
        self.assertEqual(uses(text, None, Change([1], [(1, (0,), 0)])), (
            ((0, (0,)), (0, (1,)), (2, (0,))),
            ((0, OVER), (0, ("read", 0))),
            (("finish", 0), ("silence", 0)),
        ))

    def test_bad_events_are_included(self):
        contract = Contract(2, 2, [([1, None], 2, [0, 0], True, True), ([0, 0], 0, [None, 0], True, True),
                                   ([0, 0], 0, [0, None], True, True)])
        text = "letters 2 answers 2 global g 3 proc main() read g write g == 2 skip end"
        found = decide(parse_program(text), contract)
        self.assertEqual((found.word, found.stream), ("breaks", ()))
        # The step that makes a bad event is not quiet, and its run stops there.
        self.assertEqual(found.uses, (
            ((0, (0,)), (0, (2,))),
            ((0, OVER), (0, ("read", 0)), (0, ("read", 1)), (1, ("write", 0)), (2, ("write", 1))),
            (),
        ))

    def test_quiet_steps(self):
        # Each statement stands alone in a state of its own, between two writes.
        states = [([5], 5, [state + 1] * 2, False, False) for state in range(5)] + [([5], 6, [None] * 2, True, True)]
        states.append(([6], 6, [None] * 2, True, True))
        head = "letters 1 answers 2 global g 2 proc main() write 0 {} write 0 write 0 write 0 write 0 read g end"
        for statement, quiet in (
            ("skip", [1]), ("g = 1", [1]), ("if 1 then end", [1]), ("while 0 do end", [1]), ("", []),
        ):
            found = uses(head.format(statement), Contract(1, 2, states))[2]
            self.assertEqual(found, (("finish", 5), ("finish", 6)) + tuple(
                ("silence", state) for state in quiet + [5, 6]), statement)

    def test_calls_and_their_ends_are_quiet(self):
        states = [([1], 1, [state + 1] * 2, False, False) for state in range(3)] + [([3], 3, [None] * 2, True, True)]
        text = "letters 1 answers 2 proc main() write 0 call p() write 0 end proc p() write 0 end"
        self.assertEqual(
            uses(text, Contract(1, 2, states))[2], (("finish", 3), ("silence", 1), ("silence", 2), ("silence", 3))
        )

    def test_reads_behind_the_end_are_quiet(self):
        states = [([2], 1, [None] * 2, False, False), ([2], 1, [2] * 2, False, True), ([2], 2, [2] * 2, True, True)]
        text = "letters 1 answers 2 global g 2 proc main() read g {} if g then write 1 end end"
        self.assertEqual(uses(text.format("read g"), Contract(1, 2, states))[1:], (
            ((0, OVER), (0, ("read", 0)), (1, ("write", 1)), (2, OVER), (2, ("read", 0)), (2, ("write", 1))),
            (("finish", 2), ("silence", 1), ("silence", 2)),
        ))

    def test_a_dropped_write_is_a_quiet_step(self):
        text = "letters 1 answers 2 proc main() write 0 write 1 end"
        contract = Contract(1, 2, [([0], 0, [1, 2], False, False), ([0], 0, [2, 2], False, False),
                                   ([0], 0, [2, 2], True, True)])
        self.assertEqual(uses(text, contract)[1:], (
            ((0, ("write", 0)), (1, ("write", 1))), (("finish", 2), ("silence", 2)),
        ))
        self.assertEqual(uses(text, contract, Draft([0], [(0, 2)])), (
            ((1, ()),), ((0, ("write", 1)),), (("finish", 2), ("silence", 0), ("silence", 2)),
        ))

    def test_behind_a_repeat_nothing_is_used(self):
        text = "letters 1 answers 2 global g 2 proc main() while 1 do g = 1 end write g end"
        self.assertEqual(uses(text), (
            ((0, (0,)), (0, (1,)), (1, (0,)), (1, (1,))), (), (("silence", 0),),
        ))

    def test_behind_a_call_that_never_ends_nothing_is_used(self):
        text = "letters 1 answers 2 proc main() call p() write 1 end proc p() call p() write 0 end"
        self.assertEqual(uses(text), ((), (), (("silence", 0),)))

    def test_on_long_streams(self):
        # Only the fifth letter makes the write.
        text = (
            "letters 1 answers 2 global g 2 global k 4 proc main() while g == 0 do read g if k == 3 and not g then "
            "write 1 end if not g then k = k + 1 end end end"
        )
        found = uses(text)
        self.assertIn((2, (0, 3)), found[0])
        self.assertNotIn((2, (1, 3)), found[0])
        self.assertIn((0, ("write", 1)), found[1])

    def test_in_deep_calls(self):
        # A place is used only where the letters went two calls deep.
        text = (
            "letters 1 answers 2 proc main() call p(0) end "
            "proc p(a 3) local x 2 read x if x == 0 then call p(a + 1) write a end end"
        )
        self.assertEqual(uses(text)[0], tuple(
            [(0, ())] + [(1, (a, x)) for a in range(3) for x in range(2)]
            + [(place, (a, 0)) for place in (2, 3) for a in range(3)]
        ))


if __name__ == "__main__":
    unittest.main()
