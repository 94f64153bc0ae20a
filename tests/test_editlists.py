"""Points 60 to 62: candidates, the tree of drafts and all least sets of edits."""

import itertools
import unittest

from allmends.contracts import Contract
from allmends.edits import Draft, apply_edits, edits_at
from allmends.editlists import draft_tree_holds, least_edits
from allmends.errors import InvalidPlaces, Mismatch, TooLarge, TooLong, TooManyCases
from allmends.fates import decide
from allmends.notation import parse_program
from allmends.runs import run
from tests.samples import (
    FAR, has_only_tuples, heavy_pair, large_program, open_contract, open_state, places_with, sample_contract,
    sample_program,
)

NO_ZERO = open_contract(1, 2).with_row(0, ("write", 0), None)
# The program reads a letter and writes whether it was 1: without `x = 0` it would keep the sample's contract.
COMPARING = "letters 2 answers 2 proc main() local x 3 read x x = 0 write x == 1 end"


def found_in(text, field, contract=NO_ZERO, **more):
    return least_edits(parse_program(text), contract, field, **more)


def candidates(program, field, width):
    """All candidates as tuples of pairs (place, number)."""
    found = []
    for size in range(width + 1):
        for places in itertools.combinations(sorted(field), size):
            numbers = [range(1, len(edits_at(program, place)) + 1) for place in places]
            found.extend(tuple(zip(places, picks)) for picks in itertools.product(*numbers))
    return found


def edited(program, picks):
    return apply_edits(program, [(place, edits_at(program, place)[number - 1]) for place, number in picks])


def by_trying(program, contract, field, width):
    """The least candidates, each candidate tried by itself."""
    good = [one for one in candidates(program, field, width) if decide(edited(program, one), contract).word == "keeps"]
    least = [one for one in good if not any(set(other) < set(one) for other in good)]
    return tuple(sorted(least, key=lambda one: (len(one), one)))


class LeastEditsTest(unittest.TestCase):
    def test_no_least_candidate(self):
        found = least_edits(sample_program(), sample_contract(), [1, 0])
        self.assertEqual((found.field, found.width, found.picks, found.least, found.kept), ((0, 1), 2, (), (), ()))
        self.assertEqual((found.cases, len(found.tree)), (5, 17))
        self.assertEqual(found.tree[0], ("ask", 0, (), (1, 5, 9, 13)))

    def test_one_edit(self):
        found = least_edits(parse_program(COMPARING), sample_contract(), [0])
        self.assertEqual((found.picks, found.least), ((((0, 3),),), (((0, ("put", ("name", "x"))),),)))
        self.assertEqual([(draft.field, draft.picks) for draft in found.kept], [((0,), ((0, 3),))])
        self.assertEqual(found.tree, (
            ("ask", 0, (), (1, 2, 3, 4)), ("breaks", (1,), "bad event"), ("breaks", (0,), "bad event"),
            ("breaks", (1,), "bad event"), ("keeps", (((0, (0,), 0, False), (), 0),)),
        ))
        self.assertEqual(found.uses[0], ((1, (0,)), (1, (1,)), (1, (2,))))

    def test_the_empty_candidate(self):
        found = found_in("letters 1 answers 2 proc main() write 1 end", [0])
        self.assertEqual((found.picks, found.least), (((),), ((),)))
        # Dropping the write keeps, too, but is not least.
        self.assertEqual([draft.picks for draft in found.kept], [((0, 0),), ((0, 2),)])
        found = found_in("letters 1 answers 2 proc main() write 1 end", [])
        self.assertEqual((found.field, found.picks, found.least, found.cases), ((), ((),), ((),), 0))
        self.assertEqual(found.tree, (("keeps", (((0, (), 0, False), (), 0),)),))

    def test_no_place(self):
        for none in ([], ()):
            found = found_in("letters 1 answers 2 proc main() write 0 end", none)
            self.assertEqual((found.field, found.picks, found.least, found.kept), ((), (), (), ()))
            self.assertEqual(found.tree, (("breaks", (), "bad event"),))

    def test_candidates_of_different_sizes(self):
        # Either the test is turned (by a number, or by a not), or both writes are turned or dropped.
        text = "letters 1 answers 2 proc main() if 1 then write 0 write 0 end end"
        found = found_in(text, [2, 0, 1])
        self.assertEqual(edits_at(parse_program(text), 0), (("put", ("number", 0)), ("put", ("not", ("number", 1)))))
        self.assertEqual(found.picks, (
            ((0, 1),), ((0, 2),), ((1, 1), (2, 1)), ((1, 1), (2, 2)), ((1, 2), (2, 1)), ((1, 2), (2, 2)),
        ))
        self.assertEqual(found.least[0], ((0, ("put", ("number", 0))),))
        self.assertEqual(found.least[1], ((0, ("put", ("not", ("number", 1)))),))
        self.assertEqual(found.least[3], ((1, ("put", ("number", 1))), (2, ("drop",))))
        self.assertEqual(found.picks, by_trying(parse_program(text), NO_ZERO, [0, 1, 2], 2))

    def test_more_edits_may_break(self):
        # The first write may be dropped, or turned; with both edits of it and the second place it breaks again.
        text = "letters 1 answers 2 global g 2 proc main() write g g = 0 write g + 1 end"
        found = found_in(text, [0, 1])
        self.assertIn(((0, 2),), found.picks)
        self.assertEqual(found.picks, by_trying(parse_program(text), NO_ZERO, [0, 1], 2))
        self.assertEqual(decide(edited(parse_program(text), ((0, 2), (1, 1))), NO_ZERO).word, "breaks")

    def test_widths(self):
        text = "letters 1 answers 2 proc main() write 0 write 0 write 0 end"
        program = parse_program(text)
        for width in range(4):
            found = found_in(text, [0, 1, 2], width=width)
            self.assertEqual(found.width, width)
            self.assertEqual(found.picks, by_trying(program, NO_ZERO, [0, 1, 2], width))
            self.assertEqual(len(found.picks), 8 if width == 3 else 0)
        self.assertEqual(found_in(text, [0, 1, 2], width=0).tree[0], ("ask", 0, (), (1,)))
        self.assertEqual(found_in(text, [0, 1, 2]).width, 2)

    def test_a_width_larger_than_the_field(self):
        text = "letters 1 answers 2 proc main() write 0 end"
        found = found_in(text, [0], width=3)
        self.assertEqual((found.width, found.picks), (3, (((0, 1),), ((0, 2),))))
        self.assertEqual(found.tree, found_in(text, [0], width=1).tree)
        self.assertEqual(found_in(text, [], width=3).picks, ())

    def test_a_draft_with_all_its_edits_that_asks(self):
        text = "letters 1 answers 2 proc main() write 0 write 0 end"
        found = found_in(text, [0, 1], width=1, contract=open_contract())
        self.assertEqual([row for row in found.tree if row[0] == "ask"], [
            ("ask", 0, (), (1, 5, 7)), ("ask", 1, (), (2, 3, 4)), ("ask", 1, (), (6,)), ("ask", 1, (), (8,)),
        ])
        self.assertEqual([draft.picks for draft in found.kept], [
            ((0, 0), (1, 0)), ((0, 0), (1, 1)), ((0, 0), (1, 2)), ((0, 1), (1, 0)), ((0, 2), (1, 0)),
        ])
        self.assertEqual((found.picks, found.cases), (((),), 4))

    def test_a_draft_that_keeps_with_unset_places(self):
        text = "letters 1 answers 2 proc main() if 1 then write 0 else write 1 end end"
        found = found_in(text, [0, 1, 2])
        self.assertEqual([draft.picks for draft in found.kept][-2:], [((0, 2), (2, 0)), ((0, 2), (2, 2))])
        self.assertEqual(found.kept[0].pick(2), None)
        self.assertEqual(found.picks, (((0, 1),), ((0, 2),), ((1, 1),), ((1, 2),)))
        self.assertEqual(found.picks, by_trying(parse_program(text), NO_ZERO, [0, 1, 2], 2))

    def test_dropped_writes(self):
        # No letter may be written at all.
        text = "letters 1 answers 2 global g 2 proc main() read g while g do write g end end"
        contract = open_contract(1, 2).with_row(0, ("write", 0), None).with_row(0, ("write", 1), None)
        found = found_in(text, [1], contract)
        self.assertEqual(found.least, (((1, ("drop",)),),))
        # The loop is then silent for ever.
        self.assertEqual(found_in(text, [1], contract.with_flags(0, silence=False)).least, ())

    def test_against_each_candidate_by_itself(self):
        head = "letters 1 answers 2 global g 2 global h 3 "
        texts = (
            head + "proc main() read h h = h + 1 if h == 2 then write 0 end write h < 1 end",
            head + "proc main() call p(0) write g end proc p(a 2) g = a if not a then write 0 end end",
            head + "proc main() while g < 1 and h < 2 do g = h - 1 h = h + 1 write g end end",
            head + "proc main() while 1 do g = 1 - g call p() end end proc p() if g then write 1 end end",
        )
        strict = open_contract(silence=False, finish=False)
        sizes = set()
        for text in texts:
            program = parse_program(text)
            places = range(len(program.places))
            for contract in (NO_ZERO, strict, NO_ZERO.with_flags(0, silence=False)):
                for field in itertools.combinations(places, 2):
                    for width in (1, 2):
                        found = least_edits(program, contract, field, width=width)
                        self.assertEqual(found.picks, by_trying(program, contract, field, width), (text, field))
                        self.assertIs(draft_tree_holds(program, contract, field, width, found.tree), True)
                        sizes.update(len(picks) for picks in found.picks)
        self.assertEqual(sizes, {0, 1, 2})

    def test_each_candidate_lies_in_one_leaf(self):
        text = "letters 1 answers 2 global g 2 proc main() read g if g then write 0 else write g end end"
        program = parse_program(text)
        found = least_edits(program, NO_ZERO, [0, 1, 2])
        leaves = list(self.leaves(found.tree, 0, Draft([0, 1, 2])))
        self.assertEqual([draft.picks for draft, row in leaves if row[0] == "keeps"],
                         [draft.picks for draft in found.kept])
        for picks in candidates(program, [0, 1, 2], 2):
            full = {place: dict(picks).get(place, 0) for place in (0, 1, 2)}
            rows = [row for draft, row in leaves if all(full[place] == number for place, number in draft.picks)]
            self.assertEqual(len(rows), 1)
            if not any(set(least) <= set(picks) for least in found.picks):
                self.assertEqual(rows[0][0], "breaks")
            if rows[0][0] == "breaks":
                self.assertEqual(run(edited(program, picks), NO_ZERO, rows[0][1]).verdict, rows[0][2])

    def leaves(self, tree, at, draft):
        row = tree[at]
        if row[0] != "ask":
            yield draft, row
            return
        for number, child in enumerate(row[3]):
            yield from self.leaves(tree, child, draft.with_pick(row[1], number))


class AttributesTest(unittest.TestCase):
    def test_kinds_of_values(self):
        field = [2, 0]
        found = found_in("letters 1 answers 2 proc main() write 0 write 1 write 0 end", field)
        field.append(1)
        self.assertEqual(found.field, (0, 2))
        for value in (found.field, found.tree, found.uses, found.picks, found.least):
            self.assertTrue(has_only_tuples(value))
        self.assertEqual(len(found.picks), 4)
        self.assertIsInstance(found.kept, tuple)
        for draft in found.kept:
            self.assertIsInstance(draft, Draft)
            self.assertEqual(draft.field, (0, 2))

    def test_least_has_the_edits_of_the_picks(self):
        program = parse_program(COMPARING)
        found = least_edits(program, sample_contract(), [0, 1])
        self.assertGreaterEqual(len(found.picks), 1)
        for picks, edits in zip(found.picks, found.least, strict=True):
            self.assertEqual(edits, tuple((place, edits_at(program, place)[number - 1]) for place, number in picks))
            self.assertEqual(decide(apply_edits(program, edits), sample_contract()).word, "keeps")

    def test_places_in_any_order(self):
        text = "letters 1 answers 2 proc main() if 1 then write 0 write 0 end end"
        first = found_in(text, [0, 1, 2])
        for field in itertools.permutations(range(3)):
            other = found_in(text, list(field))
            self.assertEqual((first.tree, first.picks, first.least, first.uses, first.cases),
                             (other.tree, other.picks, other.least, other.uses, other.cases))

    def test_uses_are_those_of_all_drafts(self):
        text = "letters 1 answers 2 global g 2 proc main() g = 1 if g then write 1 else write 0 end end"
        found = found_in(text, [0])
        self.assertEqual(found.uses, (
            ((1, (0,)), (1, (1,)), (2, (1,)), (3, (0,))), ((0, ("write", 0)), (0, ("write", 1))),
            (("finish", 0), ("silence", 0)),
        ))


class RefusalTest(unittest.TestCase):
    def test_refusals_in_order(self):
        heavy, contract = heavy_pair()
        nine = list(range(9))
        with self.assertRaises(Mismatch):
            least_edits(heavy, open_contract(2, 2), nine + nine)
        for field, place in ((nine + [0], 0), (nine + [99], 99), ([-1] + nine, -1), ([3, 99, 3], 99)):
            with self.assertRaises(InvalidPlaces) as caught:
                least_edits(heavy, contract, field)
            self.assertEqual(caught.exception.place, place)
        for field, what in ((nine, "field"), (nine[:8], "weight")):
            with self.assertRaises(TooLarge) as caught:
                least_edits(heavy, contract, field, width=0, limit=0)
            self.assertEqual(caught.exception.what, what)

    def test_too_many_cases(self):
        text = "letters 1 answers 2 proc main() write 0 write 0 end"
        self.assertEqual(found_in(text, [0, 1], open_contract(), width=2, limit=4).cases, 4)
        for limit in (0, 3):
            with self.assertRaises(TooManyCases) as caught:
                found_in(text, [0, 1], open_contract(), limit=limit)
            self.assertEqual(caught.exception.limit, limit)
        # What breaks or keeps does not count.
        self.assertEqual(found_in(text, [1], NO_ZERO, limit=0).cases, 0)

    def test_64_cases_by_default(self):
        text = "letters 1 answers 4 proc main() " + "write 0 " * 4 + "end"
        found = found_in(text, [0, 1, 2], open_contract(1, 4), width=3)
        self.assertEqual(found.cases, 1 + 5 + 25)
        with self.assertRaises(TooManyCases) as caught:
            found_in(text, [0, 1, 2, 3], open_contract(1, 4), width=3)
        self.assertEqual(caught.exception.limit, 64)
        self.assertEqual(found_in(text, [0, 1, 2, 3], open_contract(1, 4), width=3, limit=400).cases, 156)

    def test_too_long(self):
        with self.assertRaises(TooLong) as caught:
            found_in(FAR.format(1), [0])
        self.assertEqual(caught.exception.what, "stream")
        # The draft that asks is counted first.
        with self.assertRaises(TooManyCases):
            found_in(FAR.format(1), [0], limit=0)
        self.assertRaises(TooLong, found_in, FAR.format(1), [], limit=0)


class LargeTest(unittest.TestCase):
    def test_a_large_program(self):
        program = large_program()
        strict = open_contract(silence=False).with_row(0, ("write", 0), None)
        writes = places_with(program, "write")
        field = sorted([0, 5] + writes)
        found = least_edits(program, strict, field, limit=400)
        self.assertIs(draft_tree_holds(program, strict, field, 2, found.tree), True)
        self.assertIs(draft_tree_holds(program, strict, field, 1, found.tree), False)
        self.assertGreater(len(found.picks), 2)
        for picks in found.picks:
            self.assertEqual(decide(edited(program, picks), strict).word, "keeps")
            for left in picks:
                part = tuple(pick for pick in picks if pick != left)
                self.assertEqual(decide(edited(program, part), strict).word, "breaks")

    def test_eight_and_nine_places(self):
        program = parse_program("letters 1 answers 2 proc main() " + "write 0 " * 9 + "end")
        contract = Contract(1, 2, [open_state()[:2] + ([0, 1], False, True), open_state(target=1)])
        found = least_edits(program, contract, range(1, 9), limit=400)
        self.assertEqual(found.picks, tuple(((place, 1),) for place in range(1, 9)))
        self.assertEqual(found.picks, by_trying(program, contract, range(1, 9), 2))
        with self.assertRaises(TooLarge):
            least_edits(program, contract, range(9), limit=400)


if __name__ == "__main__":
    unittest.main()
