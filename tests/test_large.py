"""A program near the bounds of point 7 and of the weight, for each question."""

import itertools
import unittest

from allmends.bounds import weight
from allmends.cases import enough
from allmends.edits import Draft, apply_edits, edits_at
from allmends.fates import decide
from allmends.forms import statements_of
from allmends.mending import mends
from allmends.papers import holds
from allmends.runs import run
from allmends.trees import tree_holds
from tests.samples import large_program, open_contract

LOUD = open_contract(silence=False)


class LargeTest(unittest.TestCase):
    def setUp(self):
        self.program = large_program()

    def test_bounds(self):
        found = [pair for procedure in self.program.procedures for pair in statements_of(procedure[3])]
        self.assertEqual((len(found), max(depth for statement, depth in found)), (60, 6))
        self.assertEqual(max(len(self.program.sights(number)) for number in range(5)), 64)
        self.assertTrue(180000 < weight(self.program, LOUD) <= 200000)

    def test_runs_and_fate(self):
        streams = [(0,) * length for length in range(40)] + [(0,) * 400]
        runs = [run(self.program, LOUD, stream) for stream in streams]
        self.assertEqual({one.verdict for one in runs}, {"finished"})
        fate = decide(self.program, LOUD)
        self.assertEqual(fate.word, "keeps")
        self.assertEqual(fate.uses[0], tuple(sorted({entry for one in runs for entry in one.met})))
        self.assertIs(holds(self.program, LOUD, None, fate.paper), True)
        for index in range(len(fate.paper)):
            self.assertIs(holds(self.program, LOUD, None, fate.paper[:index] + fate.paper[index + 1:]), False)

    def test_edits(self):
        kinds = []
        for place in range(len(self.program.places)):
            for number, edit in enumerate(edits_at(self.program, place), start=1):
                draft = Draft([place], [(place, number)])
                self.assertEqual(draft.edits(self.program), ((place, edit),))
                edited = apply_edits(self.program, [(place, edit)])
                for contract in (LOUD, open_contract(silence=False, finish=False)):
                    one = decide(self.program, contract, draft)
                    other = decide(edited, contract)
                    self.assertEqual(
                        (one.word, one.stream, one.verdict, one.paper, one.uses[1:]),
                        (other.word, other.stream, other.verdict, other.paper, other.uses[1:]),
                    )
                    kinds.append((one.word, one.verdict))
        for kind in (("keeps", None), ("breaks", "bad silence"), ("breaks", "bad finish")):
            self.assertIn(kind, kinds)

    def test_trees(self):
        words = []
        for place in range(len(self.program.places)):
            found = mends(self.program, LOUD, [place], limit=400)
            answer = enough(self.program, LOUD, [place], limit=400)
            # The program keeps the contract as it is, but not whatever is changed.
            self.assertEqual((found.least, answer.enough), (((),), True))
            self.assertIs(tree_holds(self.program, LOUD, [place], found.tree), True)
            words.extend([row[0] for row in found.tree])
        for word in ("ask", "keeps", "breaks"):
            self.assertIn(word, words)

    def test_places_in_several_procedures(self):
        strict = LOUD.with_row(0, ("write", 0), None)
        writes = [place for place, row in enumerate(self.program.places) if row[1] == "write"]
        self.assertEqual([self.program.places[place][0] for place in writes], [0, 0, 0, 2, 3, 4])
        first, second, third = writes[0], writes[2], writes[4]
        answer = enough(self.program, strict, [third, first, second])
        self.assertTrue(answer.enough)
        self.assertIs(holds(self.program, strict, answer.change, answer.paper), True)
        found = mends(self.program, strict, [first, second, third], limit=400)
        self.assertEqual(found.kept[0], answer.change)
        # Each write that runs make is turned in the sights in which it writes 0.
        self.assertEqual({place for place, sight, value in found.closest[0]}, {first, second, third})
        self.assertEqual({value for place, sight, value in found.closest[0]}, {1})
        for places in itertools.combinations((first, second, third), 2):
            answer = enough(self.program, strict, places)
            self.assertFalse(answer.enough)
            self.assertIs(tree_holds(self.program, strict, places, answer.tree), True)
        answer = enough(self.program, strict, [second, third, writes[3]], limit=2)
        self.assertEqual((answer.enough, answer.cases, len(answer.tree)), (False, 2, 5))
        self.assertIs(tree_holds(self.program, strict, [second, third, writes[3]], answer.tree), True)


if __name__ == "__main__":
    unittest.main()
