"""Point 59: drafts in the place of changes."""

import itertools
import unittest

from allmends.changes import Change
from allmends.contracts import Contract
from allmends.edits import Draft, apply_edits, edits_at
from allmends.fates import decide
from allmends.notation import parse_program
from allmends.papers import holds
from allmends.runs import run
from tests.samples import open_contract, open_state, sample_contract, sample_program

TEXT = (
    "letters 2 answers 2 global g 3 proc main() local x 2 read g x = g + 1 if g == 1 then write x else write 0 end "
    "while not x do call p(g, x) x = x + 1 end end proc p(a 2, b 2) if a < b then write a end end"
)


def parts(found):
    return (found.verdict, found.events, found.state, found.taken, found.steps)


class RunTest(unittest.TestCase):
    def setUp(self):
        self.program = parse_program(TEXT)
        self.contract = Contract(2, 2, [open_state(2, 2, 1, silence=False), ([0, 1], 0, [0, 1], True, False)])

    def test_all_picks_set_runs_like_the_program_with_the_edits(self):
        streams = [(), (0,), (1,), (1, 0)]
        for pair in itertools.combinations(range(len(self.program.places)), 2):
            numbers = [range(len(edits_at(self.program, place)) + 1) for place in pair]
            for picks in itertools.product(*numbers):
                draft = Draft(pair, list(zip(pair, picks)))
                edited = apply_edits(self.program, draft.edits(self.program))
                for stream in streams:
                    self.assertEqual(
                        parts(run(self.program, self.contract, stream, draft)),
                        parts(run(edited, self.contract, stream)), (draft.picks, stream),
                    )

    def test_values_of_picked_expressions_are_reduced(self):
        program = parse_program("letters 1 answers 4 global g 2 global h 4 proc main() h = 3 write g - h if h - 3 then "
                                "write 1 end end")
        self.assertEqual(edits_at(program, 1)[5], ("put", ("+", ("name", "g"), ("name", "h"))))
        self.assertEqual(run(program, open_contract(1, 4), ()).events, (("write", 1),))
        self.assertEqual(run(program, open_contract(1, 4), (), Draft([1], [(1, 6)])).events, (("write", 3),))
        self.assertEqual(edits_at(program, 2)[3], ("put", ("+", ("name", "h"), ("number", 3))))
        found = run(program, open_contract(1, 4), (), Draft([1, 2], [(1, 0), (2, 4)]))
        self.assertEqual(found.events, (("write", 1), ("write", 1)))

    def test_pick_zero_leaves_the_expression(self):
        for place in range(len(self.program.places)):
            for stream in ((), (0,), (1,)):
                one = run(self.program, self.contract, stream, Draft([place], [(place, 0)]))
                self.assertEqual(vars(one), vars(run(self.program, self.contract, stream)))

    def test_unset_places_ask_without_a_sight(self):
        program = sample_program()
        found = run(program, sample_contract(), [1], Draft([0, 1]))
        self.assertEqual((found.verdict, found.asked, found.met, found.steps), ("asks", (0, ()), (), 1))
        found = run(program, sample_contract(), [1], Draft([0, 1], [(0, 3)]))
        self.assertEqual((found.verdict, found.asked, found.met, found.steps), ("asks", (1, ()), ((0, (1,)),), 2))
        found = run(program, sample_contract(), [1], Draft([0, 1], [(0, 3), (1, 1)]))
        self.assertEqual((found.verdict, found.asked, found.met), ("finished", None, ((0, (1,)), (1, (1,)))))

    def test_unset_arguments(self):
        text = "letters 1 answers 2 proc main() call p(0, 1, 0) end proc p(a 2, b 2, c 2) end"
        found = run(parse_program(text), open_contract(), (), Draft([1, 2]))
        self.assertEqual((found.asked, found.met, found.steps), ((1, ()), ((0, ()),), 0))
        found = run(parse_program(text), open_contract(), (), Draft([0, 2], [(0, 1)]))
        self.assertEqual((found.asked, found.met, found.steps), ((2, ()), ((0, ()), (1, ())), 0))

    def test_a_dropped_write(self):
        program = parse_program("letters 1 answers 2 proc main() write 0 write 1 end")
        contract = Contract(1, 2, [([None], None, [None, 0], True, True)])
        self.assertEqual(run(program, contract, ()).verdict, "bad event")
        found = run(program, contract, (), Draft([0], [(0, 2)]))
        self.assertEqual((found.verdict, found.events, found.met, found.steps),
                         ("finished", (("write", 1),), ((1, ()),), 3))

    def test_a_loop_whose_write_is_dropped_is_silent(self):
        program = parse_program("letters 1 answers 2 proc main() while 1 do write 0 end end")
        drop = Draft([1], [(1, 2)])
        self.assertEqual(run(program, open_contract(silence=False), ()).verdict, "endless")
        self.assertEqual(run(program, open_contract(silence=False), (), drop).verdict, "bad silence")
        self.assertEqual(run(program, open_contract(), (), drop).verdict, "silent")
        self.assertEqual(run(program, open_contract(), (), drop).steps, 2)

    def test_a_field_without_places(self):
        for stream in ((), (0,), (1, 1)):
            one = run(self.program, self.contract, stream, Draft([]))
            self.assertEqual(vars(one), vars(run(self.program, self.contract, stream)))


class FateTest(unittest.TestCase):
    def test_fates(self):
        program, contract = sample_program(), sample_contract()

        def told(*picks):
            found = decide(program, contract, Draft([0, 1], picks))
            return (found.word, found.stream, found.asked)

        self.assertEqual(told(), ("asks", None, ((0, ()),)))
        self.assertEqual(told((0, 0)), ("asks", None, ((1, ()),)))
        self.assertEqual(told((0, 1)), ("asks", None, ((1, ()),)))
        self.assertEqual(told((0, 3), (1, 0)), ("breaks", (1,), ()))
        self.assertEqual(told((0, 1), (1, 1)), ("breaks", (0,), ()))
        self.assertEqual(told((1, 2)), ("asks", None, ((0, ()),)))
        # Without its write the program ends where the contract wants a letter.
        self.assertEqual(told((0, 0), (1, 2)), ("breaks", (), ()))

    def test_a_draft_that_keeps(self):
        program = parse_program("letters 2 answers 2 proc main() local x 3 read x x = 0 write x == 1 end")
        draft = Draft([0], [(0, 3)])
        found = decide(program, sample_contract(), draft)
        self.assertEqual((found.word, found.paper), ("keeps", (((0, (0,), 0, False), (), 0),)))
        self.assertIs(holds(program, sample_contract(), draft, found.paper), True)
        self.assertIs(holds(program, sample_contract(), Draft([0]), found.paper), False)
        self.assertIs(holds(program, sample_contract(), Draft([0], [(0, 0)]), found.paper), False)
        self.assertEqual(found.uses[0], ((1, (0,)), (1, (1,)), (1, (2,))))

    def test_several_unset_places_are_asked(self):
        text = "letters 1 answers 2 global g 2 proc main() read g if g then write 1 else write 0 end end"
        found = decide(parse_program(text), open_contract(), Draft([1, 2]))
        self.assertEqual(found.asked, ((1, ()), (2, ())))
        found = decide(parse_program(text), open_contract(), Draft([0, 1, 2]))
        self.assertEqual(found.asked, ((0, ()),))

    def test_all_picks_set_decide_like_the_program_with_the_edits(self):
        program = parse_program(TEXT)
        contract = Contract(2, 2, [open_state(2, 2, 1, silence=False), ([0, 1], 0, [0, None], True, False)])
        words = []
        for place in range(len(program.places)):
            for number in range(len(edits_at(program, place)) + 1):
                draft = Draft([place], [(place, number)])
                one = decide(program, contract, draft)
                other = decide(apply_edits(program, draft.edits(program)), contract)
                self.assertEqual(
                    (one.word, one.stream, one.verdict, one.paper, one.uses[1:]),
                    (other.word, other.stream, other.verdict, other.paper, other.uses[1:]),
                )
                words.append(one.word)
        self.assertGreater(words.count("keeps"), 3)
        self.assertGreater(words.count("breaks"), 3)

    def test_a_dropped_write_makes_silence(self):
        program = parse_program("letters 1 answers 2 proc main() call p() end proc p() write 1 call p() end")
        contract = open_contract(silence=False)
        self.assertEqual(decide(program, contract).word, "keeps")
        self.assertEqual(decide(program, contract, Draft([0], [(0, 1)])).word, "keeps")
        found = decide(program, contract, Draft([0], [(0, 2)]))
        self.assertEqual((found.word, found.stream, found.verdict), ("breaks", (), "bad silence"))
        self.assertEqual(decide(program, contract, Draft([0])).asked, ((0, ()),))

    def test_a_draft_and_a_change_of_the_same_values(self):
        program, contract = sample_program(), sample_contract()
        change = Change([0, 1], [(0, (sight,), sight) for sight in range(3)] + [(1, (sight,), 0) for sight in range(3)])
        one = decide(program, contract, Draft([0, 1], [(0, 3), (1, 0)]))
        other = decide(program, contract, change)
        self.assertEqual(vars(one), vars(other))


if __name__ == "__main__":
    unittest.main()
