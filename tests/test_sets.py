"""Points 49 and 51 to 54: all least enough and all greatest refuted sets of places."""

import itertools
import unittest

from allmends.cases import enough
from allmends.contracts import Contract
from allmends.duality import minimal, transversals
from allmends.errors import InvalidPlaces, Mismatch, TooLarge, TooLong, TooManyCases
from allmends.mending import mends
from allmends.notation import parse_program
from allmends.papers import holds
from allmends.sets import least_sets, sets_hold
from allmends.trees import tree_holds
from tests.samples import (
    FAR, has_only_tuples, heavy_pair, large_program, open_contract, places_with, sample_contract,
    sample_program,
)

NO_ZERO = open_contract(1, 2).with_row(0, ("write", 0), None)
# Either the test is turned, or both writes are.
TURNED = "letters 1 answers 2 proc main() if 1 then write 0 write 0 end end"


def found_in(text, field, contract=NO_ZERO, **limit):
    return least_sets(parse_program(text), contract, field, **limit)


def told(lists):
    return (lists.least, lists.greatest, lists.asked)


def within(field):
    places = sorted(field)
    return [one for size in range(len(places) + 1) for one in itertools.combinations(places, size)]


def ordered(sets):
    return tuple(sorted(sets, key=lambda one: (len(one), one)))


def rests(field, sets):
    """The rest of each set (point 54)."""
    return [tuple(sorted(set(field) - set(one))) for one in sets]


def by_point_52(program, contract, field, limit=64):
    """What point 52 tells, word by word: the least sets, the greatest sets and what is asked."""
    least, greatest, asked, known = [], [], [], {}

    def is_enough(places):
        if any(set(one) <= set(places) for one in least):
            return True
        if places not in known:
            asked.append(places)
            known[places] = enough(program, contract, places, limit=limit).enough
        return known[places]

    while True:
        free = [
            places for places in within(field)
            if not any(set(one) <= set(places) for one in least)
            and not any(set(places) <= set(one) for one in greatest)
        ]
        if not free:
            break
        current = free[0]
        if is_enough(current):
            least.append(current)
            continue
        for place in sorted(field):
            larger = tuple(sorted({*current, place}))
            if place not in current and not is_enough(larger):
                current = larger
        greatest.append(current)

    return ordered(least), ordered(greatest), tuple(asked)


class LeastSetsTest(unittest.TestCase):
    def test_the_example(self):
        lists = least_sets(sample_program(), sample_contract(), [0, 1])
        self.assertEqual(told(lists), (((0, 1),), ((0,), (1,)), ((), (0,), (0, 1), (1,))))
        self.assertEqual(lists.field, (0, 1))

    def test_no_place(self):
        for none in ([], ()):
            lists = found_in(TURNED, none)
            self.assertEqual((lists.field, told(lists), lists.mended), ((), ((), ((),), ((),)), ()))
            self.assertEqual(lists.refuted, ((("breaks", (), "bad event"),),))
            lists = found_in(TURNED, none, open_contract())
            self.assertEqual((lists.field, told(lists), lists.refuted), ((), (((),), (), ((),)), ()))
            self.assertEqual(lists.mended[0][0].places, ())

    def test_one_place(self):
        self.assertEqual(told(found_in(TURNED, [0])), (((0,),), ((),), ((), (0,))))
        self.assertEqual(told(found_in(TURNED, [1])), ((), ((1,),), ((), (1,))))
        self.assertEqual(told(found_in(TURNED, [1], open_contract())), (((),), (), ((),)))

    def test_sets_that_are_not_asked(self):
        # (0,) and (1, 2) were asked before, and (0, 2) contains a least set.
        lists = found_in(TURNED, [0, 1, 2])
        self.assertEqual(told(lists), (((0,), (1, 2)), ((1,), (2,)), ((), (0,), (1,), (1, 2), (2,))))

    def test_a_set_that_was_found_enough_only_while_another_set_grew(self):
        # (0, 1) is enough, but so is (1,): this comes to light only behind it.
        lists = found_in("letters 1 answers 2 global g 2 proc main() g = 0 write 0 end", [0, 1])
        self.assertEqual(told(lists), (((1,),), ((0,),), ((), (0,), (0, 1), (1,))))

    def test_a_set_that_grows_by_several_places(self):
        text = "letters 1 answers 2 global g 2 proc main() g = 0 g = 1 write 0 g = 0 end"
        lists = found_in(text, [0, 1, 2, 3])
        self.assertEqual(told(lists), (
            ((2,),), ((0, 1, 3),), ((), (0,), (0, 1), (0, 1, 2), (0, 1, 3), (2,))
        ))

    def test_no_set_is_enough(self):
        lists = found_in("letters 1 answers 2 global g 2 proc main() g = 0 write 0 write 0 end", [0, 1])
        self.assertEqual(told(lists), ((), ((0, 1),), ((), (0,), (0, 1))))

    def test_the_order_of_the_places(self):
        expected = vars(found_in(TURNED, [0, 1, 2]))
        for field in itertools.permutations(range(3)):
            for places in (field, list(field)):
                self.assertEqual(vars(found_in(TURNED, places)), expected)

    def test_against_point_52_word_by_word(self):
        texts = (
            (TURNED, NO_ZERO),
            ("letters 1 answers 2 global g 2 proc main() read g if g then write 0 end write g end", NO_ZERO),
            ("letters 1 answers 2 global g 2 proc main() call p(0) write g end proc p(a 2) g = a end", NO_ZERO),
            ("letters 1 answers 2 global g 2 proc main() while 1 do g = 1 - g call p() end end "
             "proc p() if g then write 1 end end", open_contract(silence=False, finish=False)),
            ("letters 1 answers 2 global g 2 proc main() g = 0 if g == 0 then write g write 0 end write g end", NO_ZERO),
        )
        sizes = set()
        for text, contract in texts:
            program = parse_program(text)
            places = range(len(program.places))
            for field in [one for size in (2, 3, 4) for one in itertools.combinations(places, size)]:
                lists = least_sets(program, contract, field)
                self.assertEqual(told(lists), by_point_52(program, contract, field), (text, field))
                sizes.add((len(lists.least), len(lists.greatest)))
                self.assert_whole(program, contract, field, lists)
        self.assertGreater(len(sizes), 4)

    def assert_whole(self, program, contract, field, lists):
        """The lists are those of point 49, as `enough` tells it, and fit together as point 54 says."""
        good = [set(one) for one in within(field) if enough(program, contract, one).enough]
        bad = [set(one) for one in within(field) if set(one) not in good]
        self.assertEqual([set(one) for one in lists.least], [one for one in good if not any(two < one for two in good)])
        self.assertEqual(
            [set(one) for one in lists.greatest], [one for one in bad if not any(one < two for two in bad)]
        )
        self.assertEqual(transversals(rests(field, lists.greatest)), lists.least)
        self.assertEqual(ordered(rests(field, transversals(lists.least))), lists.greatest)
        found = mends(program, contract, field, limit=400)
        touched = [[place for place, sight, value in mend] for mend in found.least]
        self.assertEqual(minimal(touched), lists.least)
        self.assertIs(
            sets_hold(program, contract, field, lists.least, lists.mended, lists.greatest, lists.refuted), True
        )


class AttributesTest(unittest.TestCase):
    def test_mended_and_refuted_are_those_of_the_answers(self):
        for text in (TURNED, "letters 1 answers 2 global g 2 proc main() g = 0 if g == 0 then write g end write g end"):
            program = parse_program(text)
            lists = least_sets(program, NO_ZERO, range(len(program.places)))
            self.assertGreater(len(lists.least), 1)
            for places, (change, paper) in zip(lists.least, lists.mended, strict=True):
                answer = enough(program, NO_ZERO, places)
                self.assertEqual((answer.enough, answer.change, answer.paper), (True, change, paper))
                self.assertIs(holds(program, NO_ZERO, change, paper), True)
            for places, tree in zip(lists.greatest, lists.refuted, strict=True):
                answer = enough(program, NO_ZERO, places)
                self.assertEqual((answer.enough, answer.tree), (False, tree))
                self.assertIs(tree_holds(program, NO_ZERO, places, tree), True)

    def test_uses_are_the_union_of_those_of_the_answers(self):
        text = "letters 1 answers 2 global g 2 proc main() g = 0 write g if g then write 0 end end"
        for field in ([], [1], [3, 0], [0, 1, 2, 3]):
            program = parse_program(text)
            lists = least_sets(program, NO_ZERO, field)
            answers = [enough(program, NO_ZERO, places) for places in lists.asked]
            for part in range(3):
                united = sorted({item for answer in answers for item in answer.uses[part]})
                self.assertEqual(lists.uses[part], tuple(united))
        # No answer alone uses all that is used, and a place of the field is used where it is not changed.
        self.assertEqual({place for place, sight in lists.uses[0]}, {0, 1, 2, 3})
        self.assertNotIn(lists.uses, [answer.uses for answer in answers])

    def test_kinds_of_values(self):
        field = [2, 0, 1]
        lists = found_in(TURNED, field)
        field.append(7)
        self.assertEqual(lists.field, (0, 1, 2))
        for value in (lists.field, lists.least, lists.greatest, lists.refuted, lists.asked, lists.uses):
            self.assertTrue(has_only_tuples(value))
        self.assertTrue(isinstance(lists.mended, tuple) and all(isinstance(pair, tuple) for pair in lists.mended))
        for change, paper in lists.mended:
            self.assertTrue(has_only_tuples(change.places) and has_only_tuples(paper))


def counting_contract(least):
    """A contract that wants at least so many letters 1, and no reads."""
    states = [([None], None, [state, state + 1], False, True) for state in range(least)]
    return Contract(1, 2, states + [([None], None, [least, least], True, True)])


class EightPlacesTest(unittest.TestCase):
    PROGRAM = "letters 1 answers 2 proc main() " + "write 0 " * 9 + "end"

    def test_eight_places(self):
        lists = found_in(self.PROGRAM, [8, 1, 2, 3, 7, 5, 6, 4], counting_contract(4))
        self.assertEqual(lists.least, tuple(itertools.combinations(range(1, 9), 4)))
        self.assertEqual(lists.greatest, tuple(itertools.combinations(range(1, 9), 3)))
        self.assertEqual((len(lists.least), len(lists.greatest)), (70, 56))
        self.assertEqual(len(lists.asked), len(set(lists.asked)))
        self.assertIs(sets_hold(
            parse_program(self.PROGRAM), counting_contract(4), range(1, 9), lists.least, lists.mended, lists.greatest,
            lists.refuted,
        ), True)
        self.assertEqual(transversals(rests(range(1, 9), lists.greatest)), lists.least)

    def test_nine_places(self):
        program = parse_program(self.PROGRAM)
        with self.assertRaises(TooLarge) as caught:
            least_sets(program, counting_contract(4), range(9))
        self.assertEqual(caught.exception.what, "field")

    def test_a_large_program(self):
        program = large_program()
        strict = open_contract(silence=False).with_row(0, ("write", 0), None)
        writes = places_with(program, "write")
        field = sorted([0, 5] + writes)
        self.assertEqual(len(field), 8)
        lists = least_sets(program, strict, field, limit=400)
        self.assertEqual(told(lists), by_point_52(program, strict, field, 400))
        self.assertEqual(lists.least, ((0, 14), (0, 10, 31), (10, 14, 31)))
        self.assertEqual((len(lists.greatest), len(lists.asked)), (5, 39))
        self.assertEqual(transversals(rests(field, lists.greatest)), lists.least)
        self.assertIs(sets_hold(
            program, strict, field, lists.least, lists.mended, lists.greatest, lists.refuted
        ), True)


class RefusalTest(unittest.TestCase):
    def test_refusals_in_order(self):
        heavy, contract = heavy_pair()
        nine = list(range(9))
        with self.assertRaises(Mismatch):
            least_sets(heavy, open_contract(2, 2), [99, 99] + nine)
        for field, place in ((nine + [0], 0), (nine + [99], 99), ([-1] + nine, -1), ([3, 99, 3], 99), ([4, 4, 99], 4)):
            with self.assertRaises(InvalidPlaces) as caught:
                least_sets(heavy, contract, field)
            self.assertEqual(caught.exception.place, place)
        with self.assertRaises(TooLarge) as caught:
            least_sets(heavy, contract, nine)
        self.assertEqual(caught.exception.what, "field")
        with self.assertRaises(TooLarge) as caught:
            least_sets(heavy, contract, nine[:8], limit=0)
        self.assertEqual(caught.exception.what, "weight")

    def test_too_many_cases_of_the_first_asked_set_that_cannot_be_decided(self):
        self.assertEqual(told(found_in(TURNED, [], limit=0))[2], ((),))
        with self.assertRaises(TooManyCases) as caught:
            found_in(TURNED, [0], limit=0)
        self.assertEqual(caught.exception.limit, 0)
        # Both writes together ask twice, or more often.
        self.assertEqual(found_in(TURNED, [0, 1, 2], limit=2).least, ((0,), (1, 2)))
        with self.assertRaises(TooManyCases) as caught:
            found_in(TURNED, [0, 1, 2], limit=1)
        self.assertEqual(caught.exception.limit, 1)

    def test_too_long_of_the_first_asked_set_that_cannot_be_decided(self):
        # The empty set is refuted only by a long stream.
        with self.assertRaises(TooLong) as caught:
            found_in(FAR.format(1), [0])
        self.assertEqual(caught.exception.what, "stream")
        with self.assertRaises(TooLong):
            found_in(FAR.format(1), [0], limit=0)
        # The empty set is refuted at once, but not the place of the test.
        turned = FAR.format(0).replace("if 1", "if 0")
        self.assertEqual(found_in(turned, []).least, ())
        with self.assertRaises(TooLong):
            found_in(turned, [0])
        with self.assertRaises(TooManyCases):
            found_in(turned, [0], limit=0)


if __name__ == "__main__":
    unittest.main()
