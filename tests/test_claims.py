"""Points 72 and 73: claims, and whether they show what they say."""

import copy
import unittest

from allmends.cases import enough
from allmends.changes import Change
from allmends.claims import Claim, claim_holds
from allmends.errors import BoundError, Mismatch, TooLarge
from allmends.mending import mends
from allmends.notation import parse_program
from tests.random_programs import Maker
from tests.samples import as_lists, has_only_tuples, heavy_pair, large_program, open_contract, sample_contract, sample_program

NO_ZERO = open_contract(1, 2).with_row(0, ("write", 0), None)
# With a call, globals and a parameter; places 0 (pass), 1 (write) and 2 (set).
CALLING = "letters 1 answers 2 global g 2 global h 3 proc main() call p(0) write g end proc p(a 2) g = a h = 2 end"
PARTS = ("enough", "places", "change", "paper", "tree")


def claim_of(answer, **other):
    """A claim with the parts of an answer, or of another claim, some of them changed."""
    parts = {name: getattr(answer, name) for name in PARTS}
    parts.update(other)
    return Claim(*parts.values())


class ClaimTest(unittest.TestCase):
    def test_attributes(self):
        change = Change([1])
        claim = Claim(True, [3, 1, 2, 1], change, [], [])
        self.assertEqual((claim.enough, claim.places, claim.change, claim.paper, claim.tree), (True, (1, 1, 2, 3), change, (), ()))
        self.assertIs(claim.enough, True)
        claim = Claim(False, (), None, (), [["ask", 0, [1], [1, 2]]])
        self.assertEqual((claim.enough, claim.places, claim.change, claim.tree), (False, (), None, (("ask", 0, (1,), (1, 2)),)))

    def test_parts_that_are_not_looked_at_are_kept(self):
        change = Change([7], [(7, (9, 9), 5)])
        claim = Claim(False, [1], change, [[[9, [9], 9, True], [], 3]], [["keeps", []]])
        self.assertEqual((claim.change, claim.paper), (change, (((9, (9,), 9, True), (), 3),)))
        claim = Claim(True, [1], None, (), [["breaks", [5, 6], "bad event"]])
        self.assertEqual((claim.change, claim.tree), (None, (("breaks", (5, 6), "bad event"),)))

    def test_lists_are_copied(self):
        places, paper, tree = [2, 1], [[[0, [0], 0, False], [[[1], 0, False, True]], 0]], [["ask", 1, [0], [1, 2]]]
        before = copy.deepcopy((places, paper, tree))
        claim = Claim(True, places, None, paper, tree)
        self.assertEqual((places, paper, tree), before)
        places.append(3)
        paper[0][1][0][0].append(2)
        tree[0][3].clear()
        self.assertEqual(claim.places, (1, 2))
        self.assertEqual(claim.paper, (((0, (0,), 0, False), (((1,), 0, False, True),), 0),))
        self.assertEqual(claim.tree, (("ask", 1, (0,), (1, 2)),))
        for value in (claim.places, claim.paper, claim.tree):
            self.assertTrue(has_only_tuples(value))


class EnoughClaimTest(unittest.TestCase):
    def setUp(self):
        self.program, self.contract = parse_program(CALLING), NO_ZERO
        self.answer = enough(self.program, self.contract, [0])
        self.assertTrue(self.answer.enough)

    def holds(self, contract=None, **other):
        return claim_holds(self.program, contract or self.contract, claim_of(self.answer, **other))

    def test_claims_made_from_answers(self):
        self.assertIs(self.holds(), True)
        self.assertIs(claim_holds(self.program, self.contract, self.answer), True)
        self.assertIs(self.holds(contract=open_contract().with_row(0, ("write", 1), None)), False)
        answer = enough(sample_program(), sample_contract(), [0, 1])
        for claim in (answer, claim_of(answer), claim_of(answer, places=[1, 0])):
            self.assertIs(claim_holds(sample_program(), sample_contract(), claim), True)

    def test_no_change(self):
        self.assertIs(self.holds(change=None), False)
        self.assertIs(self.holds(places=(), change=None), False)
        keeps = enough(self.program, open_contract(), [])
        self.assertIs(claim_holds(self.program, open_contract(), claim_of(keeps)), True)
        self.assertIs(claim_holds(self.program, open_contract(), claim_of(keeps, change=None)), False)

    def test_a_change_of_other_places(self):
        entries = self.answer.change.entries
        for places in ([0, 1], [0, 2], [1], [0, 99]):
            self.assertIs(self.holds(places=places), False)
        for change in (Change([0, 1], entries), Change([1]), Change([]), Change([0, 99], entries)):
            self.assertIs(self.holds(change=change), False)
        wider = Change([0, 1], [*entries, (1, (1, 2), 1)])
        self.assertIs(self.holds(places=[1, 0], change=wider), True)

    def test_places_twice(self):
        self.assertIs(self.holds(places=(0, 0)), False)
        self.assertIs(self.holds(places=(0, 0), change=Change([0], self.answer.change.entries)), False)

    def test_places_that_do_not_exist(self):
        for place in (4, 99, -1):
            self.assertIs(self.holds(places=[place], change=Change([place])), False)
            change = Change([0, place], self.answer.change.entries)
            self.assertIs(self.holds(places=[0, place], change=change), False)

    def test_a_change_that_does_not_fit(self):
        for sight, value in (((0, 0), 2), ((0, 0), -1), ((0, 3), 1), ((0,), 1), ((), 1), ((0, 0, 0), 1), ((-1, 0), 1),
                             ((2, 0), 1)):
            self.assertIs(self.holds(change=Change([0], [(0, sight, value)])), False, (sight, value))
        self.assertIs(self.holds(change=Change([0], [*self.answer.change.entries, (0, (1, 1), 1)])), True)
        self.assertIs(self.holds(change=Change([0], [*self.answer.change.entries, (0, (1, 1), 2)])), False)

    def test_a_paper_that_does_not_hold(self):
        main, called = self.answer.paper
        for paper in ((), (main,), (called,), (main, called, called), (main, (called[0], (), 0))):
            self.assertIs(self.holds(paper=paper), False)
        self.assertIs(self.holds(paper=(called, main)), True)
        self.assertIs(self.holds(paper=as_lists((called, main))), True)
        self.assertIs(self.holds(change=Change([0])), False)
        self.assertIs(self.holds(change=Change([0], [(0, (0, 0), 0)])), False)

    def test_rows_that_name_what_does_not_exist(self):
        main, called = self.answer.paper
        self.assertEqual(called, ((1, (0, 0, 1), 0, False), (((1, 2), 0, False, True),), 0))
        for opening in (
            (2, (0, 0, 1), 0, False), (-1, (0, 0, 1), 0, False), (99, (), 0, False), (1, (0, 0, 2), 0, False),
            (1, (0, 3, 1), 0, False), (1, (-1, 0, 1), 0, False), (1, (0, 0), 0, False), (1, (0, 0, 1, 0), 0, False),
            (1, (), 0, False), (1, (0, 0, 1), 1, False), (1, (0, 0, 1), -1, False), (0, (0, 0, 1), 0, False),
            (1, (0, 0, 0), 8, True),
        ):
            # A row more, or in the place of the right one.
            self.assertIs(self.holds(paper=(main, called, (opening, (), 0))), False, opening)
            self.assertIs(self.holds(paper=(main, (opening, *called[1:]))), False, opening)
        for ending in (
            ((1,), 0, False, True), ((), 0, False, True), ((1, 2, 0), 0, False, True), ((2, 2), 0, False, True),
            ((1, 3), 0, False, True), ((-1, 2), 0, False, True), ((1, -1), 0, False, True), ((1, 2), 1, False, True),
            ((1, 2), -1, False, True), ((1, 2), 99, True, False),
        ):
            self.assertIs(self.holds(paper=(main, (called[0], (*called[1], ending), 0))), False, ending)
            self.assertIs(self.holds(paper=((main[0], (ending,), main[2]), called)), False, ending)

    def test_rows_that_would_hold_if_what_they_name_existed(self):
        main, called = self.answer.paper
        self.assertIs(self.holds(paper=(main, called, ((-1, (0, 0, 1), 0, False), called[1], 0))), False)
        self.assertIs(self.holds(paper=(main, called, ((1, (1, 0, 1), 0, False), called[1], 0))), True)
        # A call that never ends.
        text = "letters 1 answers 2 proc main() call p() end proc p() while 1 do end end"
        program = parse_program(text)
        answer = enough(program, NO_ZERO, [])
        self.assertEqual(answer.paper, (((0, (), 0, False), (), 0), ((1, (), 0, False), (), 0)))
        for opening, holds in (((1, (), 0, True), True), ((1, (), -1, True), False), ((1, (), 1, True), False),
                               ((-1, (), 0, True), False), ((2, (), 0, True), False), ((1, (0,), 0, True), False)):
            paper = (*answer.paper, (opening, (), 0))
            self.assertIs(claim_holds(program, NO_ZERO, claim_of(answer, paper=paper)), holds, opening)

    def test_rows_that_nothing_needs(self):
        main, called = self.answer.paper
        more = ((1, (1, 2, 1), 0, True), (((1, 2), 0, True, True),), 5)
        self.assertIs(self.holds(paper=(main, called, more)), True)
        self.assertIs(self.holds(paper=(main, called, (more[0], (), 5))), False)
        self.assertIs(self.holds(paper=((main[0], (((0, 0), 0, False, False),), main[2]), called)), True)

    def test_the_tree_is_not_looked_at(self):
        for tree in ((("keeps", ()),), (("ask", 99, (9,), (5,)),), (("breaks", (9,), "bad event"),), ()):
            self.assertIs(self.holds(tree=tree), True)


class RefutedClaimTest(unittest.TestCase):
    def setUp(self):
        self.program, self.contract = sample_program(), sample_contract()
        self.answer = enough(self.program, self.contract, [1])
        self.assertFalse(self.answer.enough)

    def holds(self, contract=None, **other):
        return claim_holds(self.program, contract or self.contract, claim_of(self.answer, **other))

    def test_claims_made_from_answers(self):
        self.assertIs(self.holds(), True)
        self.assertIs(claim_holds(self.program, self.contract, self.answer), True)
        self.assertIs(self.holds(tree=as_lists(self.answer.tree)), True)
        self.assertIs(self.holds(contract=self.contract.with_row(2, ("write", 0), 4)), False)

    def test_a_claim_of_the_other_kind(self):
        self.assertIs(self.holds(enough=True), False)
        good = enough(self.program, self.contract, [0, 1])
        self.assertIs(claim_holds(self.program, self.contract, claim_of(good, enough=False)), False)

    def test_places_twice(self):
        self.assertIs(self.holds(places=(1, 1)), False)
        self.assertIs(self.holds(places=(1, 0, 0)), False)

    def test_places_that_do_not_exist(self):
        for places in ((2,), (1, 2), (-1, 1), (99,), (1, 2, 2)):
            self.assertIs(self.holds(places=places), False)

    def test_other_places(self):
        self.assertIs(self.holds(places=()), False)
        self.assertIs(self.holds(places=(0,)), False)
        self.assertIs(self.holds(places=(0, 1)), False)
        empty = enough(self.program, self.contract, [])
        self.assertIs(claim_holds(self.program, self.contract, claim_of(empty)), True)

    def test_trees_that_name_what_does_not_exist(self):
        ask, first, second = self.answer.tree
        for wrong in (("ask", 2, (0,), (1, 2)), ("ask", -1, (0,), (1, 2)), ("ask", 1, (3,), (1, 2)), ("ask", 1, (), (1, 2)),
                      ("ask", 1, (0,), (1, 3)), ("ask", 1, (0,), (0, 1)), ("ask", 1, (0,), (1, -1)),
                      ("ask", 1, (0, 0), (1, 2)), ("ask", 1, (-1,), (1, 2))):
            self.assertIs(self.holds(tree=(wrong, first, second)), False, wrong)
        for stream in ((2,), (1, 2), (-1,), (1, 99), (1,) * 201):
            self.assertIs(self.holds(tree=(ask, ("breaks", stream, "bad event"), second)), False, stream)
        self.assertIs(self.holds(tree=(ask, ("breaks", (1,) * 200, "bad event"), second)), True)

    def test_trees_that_do_not_hold(self):
        ask, first, second = self.answer.tree
        for tree in ((), (ask,), (ask, first), (ask, second, first), (first,), (ask, first, second, second),
                     (ask, first, ("breaks", (0,), "bad finish"))):
            self.assertIs(self.holds(tree=tree), False, tree)

    def test_a_tree_with_a_keeps_row(self):
        found = mends(self.program, self.contract, [0, 1], limit=400)
        self.assertIn("keeps", [row[0] for row in found.tree])
        self.assertIs(self.holds(places=(0, 1), tree=found.tree), False)
        # Also where its paper names what does not exist.
        for paper in ((((9, (9,), 9, True), (), 0),), (((0, (0,), 99, True), (((7,), 8, True, True),), 0),)):
            ask, first, second = self.answer.tree
            self.assertIs(self.holds(tree=(ask, first, ("keeps", paper))), False)
            self.assertIs(self.holds(tree=(("keeps", paper),)), False)

    def test_the_change_and_the_paper_are_not_looked_at(self):
        for change in (Change([99], [(99, (5,), 9)]), Change([1])):
            for paper in ((((9, (9,), 9, True), (), 0),), ((), ()), ()):
                self.assertIs(self.holds(change=change, paper=paper), True)


class RefusalTest(unittest.TestCase):
    def test_both_refusals_before_the_claim_is_looked_at(self):
        heavy, contract = heavy_pair()
        claims = (
            Claim(True, [99, 99], None, (), ()), Claim(True, [99], Change([99]), (((9, (9,), 9, True), (), 0),), ()),
            Claim(False, [99, 99], None, (), ()), Claim(False, [], None, (), (("keeps", ()),)),
        )
        for claim in claims:
            with self.assertRaises(Mismatch):
                claim_holds(heavy, open_contract(2, 2), claim)
            with self.assertRaises(TooLarge) as caught:
                claim_holds(heavy, contract, claim)
            self.assertEqual(caught.exception.what, "weight")
            with self.assertRaises(Mismatch):
                claim_holds(sample_program(), open_contract(), claim)
            self.assertIs(claim_holds(sample_program(), sample_contract(), claim), False)


class ManyClaimsTest(unittest.TestCase):
    def test_claims_of_many_programs(self):
        found = []
        for seed in range(150):
            maker = Maker(seed)
            program = maker.program()
            contract, places = maker.contract(program), maker.places(program, 0.3)
            try:
                answer = enough(program, contract, places, limit=30)
            except BoundError:
                continue
            found.append(answer.enough)
            self.assertIs(claim_holds(program, contract, claim_of(answer)), True)
            self.assertIs(claim_holds(program, contract, claim_of(answer, enough=not answer.enough)), False)
            worse = claim_of(answer, paper=answer.paper[1:], tree=answer.tree[:-1])
            self.assertIs(claim_holds(program, contract, worse), False)
        self.assertGreater(min(found.count(True), found.count(False)), 30)

    def test_a_large_program(self):
        program = large_program()
        strict = open_contract(silence=False).with_row(0, ("write", 0), None)
        for places in ([10, 14, 31], [10, 31], [14, 31], [27, 35]):
            answer = enough(program, strict, places)
            self.assertIs(answer.enough, places == [10, 14, 31])
            self.assertIs(claim_holds(program, strict, claim_of(answer)), True)
            self.assertIs(claim_holds(program, open_contract(finish=False), claim_of(answer)), False)


if __name__ == "__main__":
    unittest.main()
