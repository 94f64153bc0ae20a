"""Points 38, 39 and 41: the one paper that decide returns."""

import unittest

from allmends.changes import Change
from allmends.contracts import Contract
from allmends.fates import decide
from allmends.notation import parse_program
from allmends.papers import holds
from tests.samples import has_only_tuples, open_contract, open_state


class PaperTest(unittest.TestCase):
    def paper(self, text, contract=None, change=None):
        program = parse_program(text)
        if contract is None:
            contract = open_contract(program.letters, program.answers, silence=False)
        found = decide(program, contract, change)
        self.assertEqual(found.word, "keeps")
        self.assertTrue(has_only_tuples(found.paper))
        self.assertTrue(holds(program, contract, change, found.paper))
        return found.paper

    def test_without_calls(self):
        self.assertEqual(
            self.paper("letters 1 answers 2 global g 2 proc main() local x 3 write x end"),
            (((0, (0, 0), 0, False), (), 0),),
        )

    def test_procedures_that_are_never_called_have_no_row(self):
        text = "letters 1 answers 2 proc main() if 0 then call p() end end proc p() end"
        self.assertEqual(self.paper(text), (((0, (), 0, False), (), 0),))

    def test_a_call(self):
        text = "letters 1 answers 2 global g 2 proc main() call p(1) write g end proc p(a 2) g = a end"
        self.assertEqual(self.paper(text), (
            ((0, (0,), 0, False), (), 1), ((1, (0, 1), 0, False), (((1,), 0, False, True),), 0),
        ))

    def test_locals_of_an_opening_are_zero(self):
        text = "letters 1 answers 2 global g 3 proc main() g = 2 call p(1) end proc p(a 2) local x 2 local y 3 y = 1 end"
        self.assertEqual(self.paper(text)[1], ((1, (2, 1, 0, 0), 0, False), (((2,), 0, False, True),), 0))

    def test_endings_tell_the_globals_the_state_over_and_quiet(self):
        states = [open_state(target=1), ([2], 0, [0, 0], True, False), ([2], 1, [2, 2], True, False)]
        text = (
            "letters 1 answers 2 global g 2 proc main() write 0 call p() end "
            "proc p() local x 2 read x if x then g = 1 else write 0 end end"
        )
        self.assertEqual(self.paper(text, Contract(1, 2, states))[1:], (
            ((1, (0, 0), 1, False), (((0,), 2, False, False), ((1,), 0, True, False)), 0),
        ))

    def test_a_callee_that_never_ends(self):
        text = "letters 1 answers 2 proc main() call p() end proc p() while 1 do write 1 end end"
        self.assertEqual(self.paper(text), (((0, (), 0, False), (), 1), ((1, (), 0, False), (), 0)))
        text = "letters 1 answers 2 proc main() call p() end proc p() write 1 call p() end"
        self.assertEqual(self.paper(text), (((0, (), 0, False), (), 1), ((1, (), 0, False), (), 0)))

    def test_recursion(self):
        text = (
            "letters 1 answers 2 proc main() call p() end "
            "proc p() local x 2 read x if x == 0 then call p() write 1 end end"
        )
        # Behind the over event an opening with True is never made here.
        self.assertEqual(self.paper(text), (
            ((0, (), 0, False), (), 1), ((1, (0,), 0, False), (((), 0, True, False),), 0),
        ))

    def test_an_opening_behind_the_end_of_the_stream(self):
        text = (
            "letters 1 answers 2 global g 2 proc main() while g == 0 do read g call p() end end "
            "proc p() local x 2 if not g then read x end end"
        )
        self.assertEqual(self.paper(text), (
            ((0, (0,), 0, False), (), 0),
            ((1, (0, 0), 0, False), (((0,), 0, False, False), ((0,), 0, True, False)), 0),
            ((1, (1, 0), 0, True), (((1,), 0, True, True),), 0),
        ))

    def test_endings_and_rows_ascend(self):
        text = (
            "letters 3 answers 2 global g 4 proc main() read g call p(3 - g, g) call q() end "
            "proc p(a 4, b 2) read g end proc q() write 0 end"
        )
        found = self.paper(text)
        openings = [row[0] for row in found]
        self.assertEqual(openings, sorted(openings))
        self.assertEqual(len(openings), 1 + 4 + 4)
        self.assertEqual(found[1], ((1, (0, 3, 0), 0, False), tuple(
            ((g,), 0, g == 3, False) for g in range(4)), 0))
        # In the call with over True the read is a quiet step.
        self.assertEqual(found[4], ((1, (3, 0, 1), 0, True), (((3,), 0, True, True),), 0))
        self.assertEqual([row[1] for row in found[5:]], [
            (((g,), 0, over, False),) for g, over in ((0, False), (1, False), (2, False), (3, True))])

    def test_partial_changes_keep_with_their_paper(self):
        text = "letters 1 answers 2 global g 2 proc main() call p(1) write g end proc p(a 2) g = a end"
        change = Change([0, 2], [(0, (0,), 0), (2, (0, 0), 1)])
        self.assertEqual(self.paper(text, None, change), (
            ((0, (0,), 0, False), (), 1), ((1, (0, 0), 0, False), (((1,), 0, False, True),), 0),
        ))


class RankTest(unittest.TestCase):
    def ranks(self, text, contract=None):
        program = parse_program(text)
        if contract is None:
            contract = open_contract(program.letters, program.answers, silence=False)
        found = decide(program, contract)
        self.assertEqual(found.word, "keeps")
        self.assertTrue(holds(program, contract, None, found.paper))
        return [row[2] for row in found.paper]

    CHAIN = (
        "letters 1 answers 2 proc main() {} call p() end proc p() {} call q() end proc q() {} call r() end "
        "proc r() {} call s() end proc s() end"
    )

    def test_a_chain_of_quiet_calls(self):
        self.assertEqual(self.ranks(self.CHAIN.format("", "skip", "", "")), [4, 3, 2, 1, 0])

    def test_an_event_before_the_call(self):
        self.assertEqual(self.ranks(self.CHAIN.format("", "", "write 1", "")), [2, 1, 0, 1, 0])
        self.assertEqual(self.ranks(self.CHAIN.format("write 0", "", "", "")), [0, 3, 2, 1, 0])

    def test_states_that_may_be_silent(self):
        contract = open_contract(silence=True)
        self.assertEqual(self.ranks(self.CHAIN.format("", "", "", ""), contract), [0, 0, 0, 0, 0])
        states = [open_state(target=1, silence=False), open_state(target=1, silence=True)]
        self.assertEqual(
            self.ranks(self.CHAIN.format("", "", "write 1", ""), Contract(1, 2, states)), [2, 1, 0, 0, 0]
        )

    def test_the_greatest_of_several_calls(self):
        text = (
            "letters 1 answers 2 proc main() call r() call p() call r() end proc p() call q() end "
            "proc q() call r() end proc r() end"
        )
        self.assertEqual(self.ranks(text), [3, 2, 1, 0])

    def test_calls_behind_a_call_that_ends_with_an_event(self):
        text = (
            "letters 1 answers 2 proc main() call r() call p() end proc p() call q() end "
            "proc q() call s() end proc r() write 1 end proc s() end"
        )
        self.assertEqual(self.ranks(text), [1, 2, 1, 0, 0])

    def test_calls_behind_a_call_that_never_ends(self):
        text = (
            "letters 1 answers 2 proc main() call r() call p() end proc p() end "
            "proc r() while 1 do write 1 end end"
        )
        self.assertEqual(self.ranks(text), [1, 0])

    def test_quiet_recursion_with_an_end(self):
        text = "letters 1 answers 2 proc main() call p(3) end proc p(a 4) if a then call p(a - 1) end write a end"
        self.assertEqual(self.ranks(text), [4, 0, 1, 2, 3])

    def test_reads_behind_the_end_are_quiet(self):
        text = (
            "letters 1 answers 2 global g 2 proc main() read g call p() end proc p() read g call q() end "
            "proc q() write 0 end"
        )
        # Rows: main, p at g 0, p at g 1 behind the end, then q in the same way.
        self.assertEqual(self.ranks(text), [0, 0, 1, 0, 0])

    def test_a_call_that_an_event_comes_before_only_on_one_way(self):
        text = (
            "letters 1 answers 2 global g 2 proc main() read g call p() end "
            "proc p() if g then write 1 end call q() end proc q() end"
        )
        self.assertEqual(self.ranks(text), [0, 1, 0, 0, 0])


if __name__ == "__main__":
    unittest.main()
