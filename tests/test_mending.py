"""Points 47 and 48: mends, least mends and the closest ones."""

import itertools
import unittest

from allmends.cases import enough
from allmends.changes import Change, turned
from allmends.contracts import Contract
from allmends.errors import TooManyCases
from allmends.fates import decide
from allmends.mending import mends
from allmends.notation import parse_program
from allmends.trees import tree_holds
from tests.samples import has_only_tuples, open_contract, sample_contract, sample_program

NO_ZERO = open_contract(1, 2).with_row(0, ("write", 0), None)
NO_ZERO_2 = open_contract(2, 2).with_row(0, ("write", 0), None)


def found_in(text, places, contract=NO_ZERO, **limit):
    return mends(parse_program(text), contract, places, **limit)


def by_hand(program, contract, places):
    """The number of whole changes that keep, and all least mends, found among all whole changes."""
    entries = [(place, sight) for place in places for sight in program.sights(program.places[place][0])]
    sizes = [program.places[place][2] for place, sight in entries]
    good = []
    for values in itertools.product(*[range(size) for size in sizes]):
        change = Change(places, [(place, sight, value) for (place, sight), value in zip(entries, values)])
        if decide(program, contract, change).word == "keeps":
            good.append(turned(program, change))
    least = [mend for mend in good if not any(set(other) < set(mend) for other in good)]
    return len(good), tuple(sorted(least, key=lambda mend: (len(mend), mend)))


class MendsTest(unittest.TestCase):
    def test_the_example(self):
        found = mends(sample_program(), sample_contract(), [1, 0], limit=76)
        self.assertEqual((found.places, found.cases, found.count), ((0, 1), 76, 36))
        self.assertEqual(found.least, (
            ((0, (0,), 1), (1, (0,), 1)), ((0, (0,), 2), (1, (0,), 1)),
            ((0, (1,), 1), (1, (1,), 1)), ((0, (1,), 2), (1, (2,), 1)),
        ))
        self.assertEqual(found.closest, found.least)
        self.assertEqual(by_hand(sample_program(), sample_contract(), [0, 1])[1], found.least)

    def test_no_mend(self):
        found = mends(sample_program(), sample_contract(), [1])
        self.assertEqual(
            (found.kept, found.count, found.least, found.closest, found.cases), ((), 0, (), (), 1)
        )
        self.assertEqual(found.tree, enough(sample_program(), sample_contract(), [1]).tree)
        self.assertEqual(found.uses, enough(sample_program(), sample_contract(), [1]).uses)

    def test_the_empty_mend(self):
        text = "letters 1 answers 2 proc main() write 1 end"
        found = found_in(text, [0])
        self.assertEqual((found.count, found.least, found.closest, found.cases), (1, ((),), ((),), 1))
        self.assertEqual(list(found.kept[0]), [(0, (), 1)])
        self.assertEqual(found.tree[1:], (("breaks", (), "bad event"), ("keeps", (((0, (), 0, False), (), 0),))))
        # Both values are right, but only the elder one turns nothing.
        found = found_in(text, [0], open_contract())
        self.assertEqual((found.count, len(found.kept), found.least), (2, 2, ((),)))

    def test_no_places(self):
        found = found_in("letters 1 answers 2 proc main() write 1 end", [])
        self.assertEqual((found.places, found.cases, found.count, found.least), ((), 0, 1, ((),)))
        self.assertEqual(found.kept, (Change([]),))
        found = found_in("letters 1 answers 2 proc main() write 0 end", ())
        self.assertEqual((found.count, found.least, found.closest, found.kept), (0, (), (), ()))
        self.assertEqual(found.tree, (("breaks", (), "bad event"),))

    def test_least_mends_of_different_sizes(self):
        # Either the test is turned, or both writes are.
        text = "letters 1 answers 2 proc main() if 1 then write 0 write 0 end end"
        found = found_in(text, [0, 1, 2])
        self.assertEqual(found.least, (((0, (), 0),), ((1, (), 1), (2, (), 1))))
        self.assertEqual(found.closest, (((0, (), 0),),))
        self.assertEqual(found.count, 4 + 1)
        self.assertEqual(found.least, by_hand(parse_program(text), NO_ZERO, [0, 1, 2])[1])

    def test_several_closest_mends(self):
        text = "letters 1 answers 2 global g 2 proc main() g = 0 if g == 0 then write g end write 1 end"
        found = found_in(text, [0, 1, 2])
        program = parse_program(text)
        self.assertEqual(found.count, by_hand(program, NO_ZERO, [0, 1, 2])[0])
        self.assertEqual(found.least, (((0, (0,), 1),), ((1, (0,), 0),), ((2, (0,), 1),)))
        self.assertEqual(found.closest, found.least)

    def test_a_mend_with_a_mend_as_its_part_is_not_least(self):
        # With g = 0 the write is wrong, with g = 1 it is right; turning the test, too, is no least mend.
        text = "letters 1 answers 2 global g 2 proc main() g = 0 if 1 then write g end end"
        found = found_in(text, [0, 1])
        self.assertEqual(found.least, (((0, (0,), 1),), ((1, (0,), 0),)))
        self.assertEqual([turned(parse_program(text), case) for case in found.kept],
                         [((1, (0,), 0),), ((0, (0,), 1), (1, (1,), 0)), ((0, (0,), 1),)])

    def test_unset_entries_count_by_the_sizes(self):
        text = "letters 1 answers 4 global g 2 global h 3 proc main() write 0 h = 0 end"
        contract = open_contract(1, 4).with_row(0, ("write", 0), None)
        found = found_in(text, [0, 1], contract)
        # Of the six entries of each place one is met; three values of the write are right, and all of the set.
        self.assertEqual(found.count, 9 * 4 ** 5 * 3 ** 5)
        self.assertEqual([len(case) for case in found.kept], [2] * 9)
        found = found_in(text, [0], contract)
        self.assertEqual((found.count, found.cases), (3 * 4 ** 5, 1))
        self.assertEqual(found.least, tuple([((0, (0, 0), value),) for value in (1, 2, 3)]))

    def test_a_case_without_unset_entries_stands_for_one(self):
        text = "letters 1 answers 2 proc main() write 0 write 0 end"
        found = found_in(text, [0, 1])
        self.assertEqual((found.count, len(found.kept), found.cases), (1, 1, 2))
        self.assertEqual(found.least, (((0, (), 1), (1, (), 1)),))

    def test_a_very_large_count(self):
        text = "letters 1 answers 4 global a 4 global b 4 global c 4 proc main() " + "write 1 " * 20 + "end"
        found = found_in(text, [19], open_contract(1, 4))
        self.assertEqual(found.count, 4 * 4 ** 63)
        all_places = found_in(text.replace("main()", "main() if 0 then").replace("write 1 end", "write 1 end end"),
                              list(range(1, 21)), open_contract(1, 4))
        self.assertEqual((all_places.count, all_places.cases, all_places.least), (4 ** (64 * 20), 0, ((),)))

    def test_least_mends_are_in_order(self):
        text = (
            "letters 2 answers 3 global g 3 proc main() read g if g == 1 then write 0 else if g == 2 then write 0 "
            "write 0 else write 0 end end end"
        )
        contract = open_contract(2, 3).with_row(0, ("write", 0), None)
        program = parse_program(text)
        places = [0, 1, 2, 3, 4]
        found = mends(program, contract, places, limit=400)
        self.assertGreater(len(found.least), 10)
        self.assertEqual(list(found.least), sorted(found.least, key=lambda mend: (len(mend), mend)))
        self.assertEqual(len(set(found.least)), len(found.least))
        sizes = [len(mend) for mend in found.least]
        self.assertGreater(len(set(sizes)), 1)
        self.assertEqual(found.closest, tuple(mend for mend in found.least if len(mend) == min(sizes)))
        for mend in found.least:
            self.assertEqual(list(mend), sorted(mend))
            self.assert_least(program, contract, places, mend)

    def assert_least(self, program, contract, places, mend):
        """A mend keeps with the elder values elsewhere, and no part of it without one triple does."""
        self.assertEqual(self.word(program, contract, places, mend), "keeps")
        for left in mend:
            part = [triple for triple in mend if triple != left]
            self.assertEqual(self.word(program, contract, places, part), "breaks")

    def word(self, program, contract, places, mend):
        values = {(place, sight): value for place, sight, value in mend}
        entries = [
            (place, sight, values.get((place, sight), program.value_at(place, sight)))
            for place in places for sight in program.sights(program.places[place][0])
        ]
        return decide(program, contract, Change(places, entries)).word

    def test_against_all_whole_changes(self):
        texts = (
            ("letters 1 answers 2 global g 2 proc main() read g if g then write 0 end write g end", NO_ZERO),
            ("letters 1 answers 2 global g 2 proc main() call p(0) write g end proc p(a 2) g = a end", NO_ZERO),
            ("letters 2 answers 2 global g 3 proc main() read g if g == 2 then write 0 end call p() end "
             "proc p() if g == 1 then write 0 end end", NO_ZERO_2),
            ("letters 1 answers 2 global g 2 proc main() while 1 do g = 1 - g call p() end end "
             "proc p() if g then write 1 end end", open_contract(silence=False, finish=False)),
            ("letters 1 answers 2 global g 2 proc main() call p(1) end "
             "proc p(a 2) if a then call p(a) else write a end end", NO_ZERO.with_flags(0, silence=False)),
        )
        some = 0
        for text, contract in texts:
            program = parse_program(text)
            for size in (1, 2):
                for places in itertools.combinations(range(len(program.places)), size):
                    entries = [sight for place in places for sight in program.sights(program.places[place][0])]
                    if len(entries) > 8:
                        continue
                    found = mends(program, contract, places)
                    self.assertEqual((found.count, found.least), by_hand(program, contract, places), (text, places))
                    self.assertEqual(bool(found.least), enough(program, contract, places).enough)
                    self.assertIs(tree_holds(program, contract, places, found.tree), True)
                    some += bool(found.least)
        self.assertGreater(some, 15)


class AttributesTest(unittest.TestCase):
    def test_kept_are_changes_in_the_order_of_the_tree(self):
        text = "letters 1 answers 3 proc main() write 0 write 0 end"
        found = found_in(text, [1, 0], open_contract(1, 3).with_row(0, ("write", 1), None))
        self.assertEqual(found.kept, tuple(
            Change([0, 1], [(0, (), first), (1, (), second)]) for first in (0, 2) for second in (0, 2)
        ))
        self.assertEqual([row[0] for row in found.tree],
                         ["ask", "ask", "keeps", "breaks", "keeps", "breaks", "ask", "keeps", "breaks", "keeps"])
        self.assertEqual(found.tree[0], ("ask", 0, (), (1, 5, 6)))
        self.assertEqual(found.tree[6], ("ask", 1, (), (7, 8, 9)))

    def test_the_whole_tree_goes_beyond_the_first_case_that_keeps(self):
        answer = enough(sample_program(), sample_contract(), [0, 1])
        found = mends(sample_program(), sample_contract(), [0, 1], limit=76)
        self.assertEqual((answer.cases, found.cases), (9, 76))
        self.assertEqual(found.kept[0], answer.change)
        self.assertEqual([row for row in found.tree if row[0] == "keeps"][0], ("keeps", answer.paper))
        for part in range(3):
            self.assertLessEqual(set(answer.uses[part]), set(found.uses[part]))

    def test_uses_of_the_whole_tree(self):
        text = "letters 1 answers 2 global g 2 proc main() g = 1 if g then write 1 else write 0 end end"
        found = found_in(text, [0])
        self.assertEqual(found.uses, (
            ((1, (0,)), (1, (1,)), (2, (1,)), (3, (0,))), ((0, ("write", 0)), (0, ("write", 1))),
            (("finish", 0), ("silence", 0)),
        ))

    def test_kinds_of_values(self):
        for places in ([], [1], [0]):
            found = mends(sample_program(), sample_contract(), places)
            for value in (found.places, found.tree, found.cases, found.uses, found.count, found.least, found.closest):
                self.assertTrue(has_only_tuples(value))
            self.assertIsInstance(found.kept, tuple)

    def test_places_are_copied(self):
        places = [1]
        found = mends(sample_program(), sample_contract(), places)
        places.append(0)
        self.assertEqual(found.places, (1,))

    def test_limit_over_the_whole_tree(self):
        with self.assertRaises(TooManyCases) as caught:
            mends(sample_program(), sample_contract(), [0, 1], limit=75)
        self.assertEqual(caught.exception.limit, 75)
        with self.assertRaises(TooManyCases) as caught:
            mends(sample_program(), sample_contract(), [0, 1])
        self.assertEqual(caught.exception.limit, 64)
        self.assertEqual(mends(sample_program(), sample_contract(), [], limit=0).cases, 0)
        with self.assertRaises(TooManyCases):
            mends(sample_program(), sample_contract(), [1], limit=0)

    def test_calls_that_never_end(self):
        text = "letters 1 answers 2 proc main() call p(1) end proc p(a 2) if a then call p(a) end end"
        contract = Contract(1, 2, [([0], 0, [0, 0], True, False)])
        found = found_in(text, [0, 1, 2], contract)
        # The argument of main, the test at 1, or the argument of p at 1.
        self.assertEqual(found.least, (((0, (), 0),), ((1, (1,), 0),), ((2, (1,), 0),)))


if __name__ == "__main__":
    unittest.main()
