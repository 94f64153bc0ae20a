"""Point 55: what the lists of sets must have that hold."""

import copy
import unittest

from allmends.changes import Change
from allmends.errors import InvalidPlaces, Mismatch, TooLarge
from allmends.mending import mends
from allmends.notation import parse_program
from allmends.sets import least_sets, sets_hold
from tests.samples import as_lists, heavy_pair, open_contract, sample_contract, sample_program

NO_ZERO = open_contract(1, 2).with_row(0, ("write", 0), None)
# Either the test is turned, or both writes are: least are (0,) and (1, 2), greatest are (1,) and (2,).
TURNED = "letters 1 answers 2 proc main() if 1 then write 0 write 0 end end"


class BrokenOnceTest(unittest.TestCase):
    """The lists of a field, broken in one way after the other."""

    FIELD = (0, 1, 2)

    def setUp(self):
        self.program = parse_program(TURNED)
        found = least_sets(self.program, NO_ZERO, self.FIELD)
        self.least, self.greatest = found.least, found.greatest
        self.mended, self.refuted = found.mended, found.refuted
        self.assertEqual((self.least, self.greatest), (((0,), (1, 2)), ((1,), (2,))))

    def holds(self, **other):
        parts = {
            "field": self.FIELD, "least": self.least, "mended": self.mended, "greatest": self.greatest,
            "refuted": self.refuted, **other,
        }
        return sets_hold(self.program, NO_ZERO, *parts.values())

    def test_the_lists_of_least_sets(self):
        self.assertIs(self.holds(), True)
        self.assertIs(self.holds(field=[2, 0, 1]), True)

    def test_another_order(self):
        self.assertIs(self.holds(least=self.least[::-1], mended=self.mended[::-1]), True)
        self.assertIs(self.holds(greatest=self.greatest[::-1], refuted=self.refuted[::-1]), True)
        # Each set has its own change, and its own tree.
        self.assertIs(self.holds(least=self.least[::-1]), False)
        self.assertIs(self.holds(greatest=self.greatest[::-1]), False)

    def test_one_item_too_many_or_too_few(self):
        for name in ("mended", "refuted"):
            whole = getattr(self, name)
            for wrong in (whole + whole[:1], whole[:1], ()):
                self.assertIs(self.holds(**{name: wrong}), False, (name, wrong))
        self.assertIs(self.holds(least=self.least[:1]), False)
        self.assertIs(self.holds(greatest=self.greatest[:1]), False)
        self.assertIs(self.holds(least=self.least + ((2,),)), False)
        self.assertIs(self.holds(greatest=self.greatest + ((),)), False)

    def test_no_lists_at_all(self):
        self.assertIs(self.holds(least=(), mended=(), greatest=(), refuted=()), False)
        self.assertIs(self.holds(field=(), least=(), mended=(), greatest=(), refuted=()), False)
        self.assertIs(self.holds(field=(), least=(), mended=(), greatest=((),), refuted=self.tree_of(())), True)

    def tree_of(self, *fields):
        """The trees of fields that are not enough."""
        return [least_sets(self.program, NO_ZERO, field).refuted[-1] for field in fields]

    def test_a_set_that_does_not_ascend(self):
        self.assertIs(self.holds(least=((0,), (2, 1))), False)
        self.assertIs(self.holds(least=((0,), (1, 1, 2))), False)
        self.assertIs(self.holds(least=((0, 0), (1, 2))), False)
        self.assertIs(self.holds(greatest=((1, 1), (2,))), False)
        wide = least_sets(self.program, open_contract(finish=False), self.FIELD)
        self.assertEqual(wide.greatest, ((0, 1, 2),))
        for one, holds in (((0, 1, 2), True), ((0, 2, 1), False), ((2, 1, 0), False), ((0, 1, 1, 2), False)):
            self.assertIs(
                sets_hold(self.program, open_contract(finish=False), self.FIELD, (), (), (one,), wide.refuted), holds
            )

    def test_a_place_outside_of_the_field(self):
        # With the field (1, 2) the set (0,) has a place outside of it, although its mend holds.
        self.assertIs(self.holds(field=(1, 2)), False)
        self.assertIs(self.holds(field=(1, 2), least=self.least[1:], mended=self.mended[1:]), True)
        self.assertIs(self.holds(field=(0, 1)), False)
        self.assertIs(self.holds(
            field=(0, 1), least=self.least[:1], mended=self.mended[:1], greatest=self.greatest[:1],
            refuted=self.refuted[:1]), True)
        self.assertIs(self.holds(field=(0, 1), least=self.least[:1], mended=self.mended[:1]), False)

    def test_a_place_that_does_not_exist(self):
        for place in (3, 99, -1):
            self.assertIs(self.holds(least=((place,), (1, 2))), False)
            self.assertIs(self.holds(least=((0,), tuple(sorted((1, 2, place))))), False)
            self.assertIs(self.holds(greatest=((1,), (place,))), False)
            self.assertIs(self.holds(greatest=((1,), tuple(sorted((2, place))))), False)

    def test_a_set_twice(self):
        self.assertIs(self.holds(least=self.least + self.least[:1], mended=self.mended + self.mended[:1]), False)
        self.assertIs(
            self.holds(greatest=self.greatest + self.greatest[1:], refuted=self.refuted + self.refuted[1:]), False
        )

    def test_a_set_that_contains_another_one(self):
        # The change of (0,) is one of places of (0, 1), too, and (0, 1) is enough, but not least.
        for larger in ((0, 1), (0, 2), (0, 1, 2)):
            self.assertIs(self.holds(least=self.least + (larger,), mended=self.mended + self.mended[:1]), False)
        # The other way round: () is refuted, but not greatest.
        self.assertIs(self.holds(greatest=((),) + self.greatest, refuted=self.tree_of(()) + list(self.refuted)), False)
        # A larger set in the place of the least one holds all that is asked of one set, but leaves one out.
        self.assertIs(self.holds(least=((0, 1), (1, 2))), False)
        self.assertIs(self.holds(least=((0, 1, 2), (1, 2))), False)

    def test_a_change_with_a_place_outside_of_its_set(self):
        (change, paper), (other, second) = self.mended
        self.assertEqual(change.places, (0,))
        wider = Change([0, 1], change.entries)
        # The paper holds for the wider change, which leaves the entry of place 1 unset, where no run comes to it.
        self.assertIs(self.holds(mended=((wider, paper), (other, second))), False)
        self.assertIs(self.holds(least=((0, 1), (1, 2)), mended=((wider, paper), (other, second))), False)
        both = Change([0, 1], [*change.entries, (1, (), 1)])
        self.assertIs(self.holds(mended=((both, paper), (other, second))), False)
        self.assertIs(self.holds(mended=((other, second), (other, second))), False)

    def test_a_change_of_fewer_places(self):
        # All that is asked is that its places lie in the set.
        program = parse_program("letters 1 answers 2 proc main() write 1 end")
        found = least_sets(program, NO_ZERO, [0])
        self.assertEqual((found.least, found.mended[0][0].places), (((),), ()))
        self.assertIs(sets_hold(program, NO_ZERO, [0], ((),), found.mended, (), ()), True)
        self.assertIs(sets_hold(program, NO_ZERO, [0], ((0,),), found.mended, (), ()), False)
        refuted = parse_program("letters 1 answers 2 proc main() write 0 end")
        whole = least_sets(refuted, NO_ZERO, [0])
        change = Change([0], [(0, (), 1)])
        self.assertIs(sets_hold(refuted, NO_ZERO, [0], ((0,),), [(change, whole.mended[0][1])], whole.greatest,
                                whole.refuted), True)
        self.assertIs(sets_hold(refuted, NO_ZERO, [0], ((0,),), [(Change([]), whole.mended[0][1])], whole.greatest,
                                whole.refuted), False)

    def test_a_paper_that_does_not_hold(self):
        (change, paper), (other, second) = self.mended
        for wrong in ((), paper + paper):
            self.assertIs(self.holds(mended=((change, wrong), (other, second))), False)
        wrong = Change([0], [(0, (), 1)])
        self.assertIs(self.holds(mended=((wrong, paper), (other, second))), False)
        self.assertIs(self.holds(mended=((change, paper), (Change([1, 2], [(1, (), 1)]), second))), False)

    def test_a_tree_that_does_not_hold(self):
        first, second = self.refuted
        self.assertEqual(first[0], ("ask", 1, (), (1, 2)))
        for wrong in ((), first[:2], first[1:], first[:1] + first[1:2] * 3, second):
            self.assertIs(self.holds(refuted=(wrong, second)), False, wrong)
            self.assertIs(self.holds(refuted=(first, wrong)), wrong == second, wrong)

    def test_a_tree_with_a_keeps_row(self):
        program = parse_program("letters 1 answers 2 proc main() write 0 write 0 end")
        found = mends(program, NO_ZERO, [0, 1])
        self.assertIn("keeps", [row[0] for row in found.tree])
        # The tree holds, but it does not show that (0, 1) is not enough.
        self.assertIs(sets_hold(program, NO_ZERO, [0, 1], (), (), ((0, 1),), (found.tree,)), False)
        lists = least_sets(program, NO_ZERO, [0, 1])
        self.assertEqual(lists.greatest, ((0,), (1,)))

    def test_a_set_that_lies_nowhere(self):
        # (1, 2) contains no set of `least`, and lies in none of `greatest`.
        self.assertIs(self.holds(least=self.least[:1], mended=self.mended[:1]), False)
        self.assertIs(self.holds(least=self.least[1:], mended=self.mended[1:]), False)
        self.assertIs(self.holds(greatest=self.greatest[:1], refuted=self.refuted[:1]), False)
        self.assertIs(self.holds(greatest=(), refuted=()), False)
        self.assertIs(self.holds(greatest=((),), refuted=self.tree_of(())), False)

    def test_lists_in_the_place_of_tuples(self):
        lists = {name: as_lists(getattr(self, name)) for name in ("least", "greatest", "refuted")}
        mended = [[change, as_lists(paper)] for change, paper in self.mended]
        before = copy.deepcopy(lists)
        papers = copy.deepcopy([paper for change, paper in mended])
        self.assertIs(self.holds(field=[0, 1, 2], mended=mended, **lists), True)
        self.assertEqual(lists, before)
        self.assertEqual([paper for change, paper in mended], papers)

    def test_lists_that_are_changed_behind_the_call(self):
        least, greatest, refuted = [list(self.least), list(self.greatest), as_lists(self.refuted)]
        mended = [list(pair) for pair in self.mended]
        parts = {"least": least, "greatest": greatest, "refuted": refuted, "mended": mended}
        self.assertIs(self.holds(**parts), True)
        refuted[0].append(("breaks", (), "bad event"))
        self.assertIs(self.holds(**parts), False)
        refuted[0].pop()
        least.append((0, 1))
        self.assertIs(self.holds(**parts), False)
        mended.append(mended[0])
        self.assertIs(self.holds(**parts), False)
        least.pop()
        mended.pop()
        self.assertIs(self.holds(**parts), True)


class RefusalTest(unittest.TestCase):
    def test_refusals_in_order(self):
        heavy, contract = heavy_pair()
        nine = list(range(9))
        with self.assertRaises(Mismatch):
            sets_hold(heavy, open_contract(2, 2), nine + nine, (), (), (), ())
        for field, place in ((nine + [0], 0), (nine + [99], 99), ([-1] + nine, -1)):
            with self.assertRaises(InvalidPlaces) as caught:
                sets_hold(heavy, contract, field, (), (), (), ())
            self.assertEqual(caught.exception.place, place)
        for field, what in ((nine, "field"), (nine[:8], "weight")):
            with self.assertRaises(TooLarge) as caught:
                sets_hold(heavy, contract, field, (), [()], (), ())
            self.assertEqual(caught.exception.what, what)

    def test_the_example(self):
        program, contract = sample_program(), sample_contract()
        lists = least_sets(program, contract, [0, 1])
        parts = (lists.least, lists.mended, lists.greatest, lists.refuted)
        self.assertIs(sets_hold(program, contract, [1, 0], *parts), True)
        self.assertIs(sets_hold(program, contract.with_row(3, ("write", 0), None), [1, 0], *parts), False)
        with self.assertRaises(InvalidPlaces):
            sets_hold(program, contract, [0, 1, 2], *parts)


if __name__ == "__main__":
    unittest.main()
