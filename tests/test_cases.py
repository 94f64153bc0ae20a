"""Points 42 to 45: the tree of cases, whether places are enough, and what is refused."""

import itertools
import unittest

from allmends.bounds import weight
from allmends.cases import enough
from allmends.changes import Change
from allmends.contracts import Contract
from allmends.errors import InvalidPlaces, Mismatch, TooLarge, TooLong, TooManyCases
from allmends.fates import decide
from allmends.mending import mends
from allmends.notation import parse_program
from allmends.papers import holds
from allmends.trees import tree_holds
from tests.samples import has_only_tuples, open_contract, open_state, sample_contract, sample_program

NO_ZERO = open_contract(1, 2).with_row(0, ("write", 0), None)


def ask(text, places, contract=None, **limit):
    program = parse_program(text)
    return enough(program, contract or open_contract(program.letters, program.answers), places, **limit)


def parts(answer):
    return (answer.enough, answer.places, answer.change, answer.paper, answer.tree, answer.cases, answer.uses)


class FirstCaseTest(unittest.TestCase):
    """The fate of the first case is that of the places without any entry."""

    MAIN = (((0, (), 0, False), (), 0),)

    def test_a_first_case_that_keeps(self):
        text = "letters 1 answers 2 proc main() if 0 then write 0 end end"
        answer = ask(text, [1], NO_ZERO)
        self.assertEqual(
            parts(answer),
            (True, (1,), Change([1]), self.MAIN, (), 0, (((0, ()),), (), (("finish", 0), ("silence", 0)))),
        )

    def test_a_first_case_that_breaks(self):
        text = "letters 1 answers 2 proc main() write 0 write 1 end"
        answer = ask(text, [1], NO_ZERO)
        self.assertEqual(
            parts(answer),
            (False, (1,), None, (), (("breaks", (), "bad event"),), 0, (((0, ()),), ((0, ("write", 0)),), ())),
        )

    def test_a_first_case_that_asks(self):
        text = "letters 1 answers 2 proc main() write 0 end"
        answer = ask(text, [0], NO_ZERO)
        self.assertEqual(
            parts(answer),
            (True, (0,), Change([0], [(0, (), 1)]), self.MAIN, (), 1,
             ((), ((0, ("write", 0)), (0, ("write", 1))), (("finish", 0), ("silence", 0)))),
        )

    def test_no_place_at_all(self):
        text = "letters 1 answers 2 proc main() write {} end"
        for places in ([], ()):
            answer = ask(text.format(1), places, NO_ZERO)
            self.assertEqual((answer.enough, answer.places, answer.change, answer.paper, answer.cases),
                             (True, (), Change([]), self.MAIN, 0))
            answer = ask(text.format(0), places, NO_ZERO, limit=0)
            self.assertEqual(
                parts(answer),
                (False, (), None, (), (("breaks", (), "bad event"),), 0, (((0, ()),), ((0, ("write", 0)),), ())),
            )


class TreeTest(unittest.TestCase):
    def test_the_example(self):
        answer = enough(sample_program(), sample_contract(), [1])
        self.assertEqual(answer.tree, (
            ("ask", 1, (0,), (1, 2)), ("breaks", (1,), "bad event"), ("breaks", (0,), "bad event")
        ))
        self.assertEqual((answer.enough, answer.cases), (False, 1))

    def test_the_least_asked_entry_comes_first_and_rows_are_numbered_in_order(self):
        # The three entries of place 0 are asked at once; then those of place 1, as they are met.
        answer = enough(sample_program(), sample_contract(), (0,), limit=400)
        self.assertEqual(answer.tree, (
            ("ask", 0, (0,), (1, 5, 9)),
            ("ask", 0, (1,), (2, 3, 4)),
            ("breaks", (1,), "bad event"), ("breaks", (1,), "bad event"), ("breaks", (1,), "bad event"),
            ("ask", 0, (1,), (6, 7, 8)),
            ("breaks", (1,), "bad event"), ("breaks", (1,), "bad event"), ("breaks", (1,), "bad event"),
            ("ask", 0, (1,), (10, 11, 12)),
            ("breaks", (1,), "bad event"), ("breaks", (1,), "bad event"), ("breaks", (1,), "bad event"),
        ))
        self.assertEqual(answer.cases, 4)

    def test_children_for_each_value_of_the_place(self):
        text = "letters 1 answers 4 global g 3 proc main() g = 0 write 0 while 0 do end call p(0) end proc p(a 2) end"
        strict = Contract(1, 4, [([0], 0, [None] * 4, False, True)])
        for place, many in ((0, 3), (1, 4), (2, 2), (3, 2)):
            program = parse_program(text)
            contract = open_contract(1, 4, finish=False, silence=False) if place != 1 else strict
            answer = enough(program, contract, [place], limit=100)
            self.assertFalse(answer.enough)
            row = answer.tree[0]
            self.assertEqual((row[:2], len(row[3])), (("ask", place), many))
            self.assertEqual(row[3][0], 1)

    def test_the_least_entry_by_place_and_sight(self):
        text = "letters 2 answers 2 global g 3 proc main() read g if g == 1 then write 0 else g = 2 write 0 end end"
        contract = open_contract(2, 2, finish=False)
        # Place 2 is asked in sights 0 and 2, place 1 in sight 1: place 1 is the least one.
        answer = ask(text, [2, 1], contract)
        self.assertEqual(
            answer.tree, (("ask", 1, (1,), (1, 2)), ("breaks", (1,), "bad finish"), ("breaks", (1,), "bad finish"))
        )
        endless = text.replace("write 0 end end", "write 0 end while 1 do write 1 end end")
        whole = mends(parse_program(endless), contract, [3, 1, 2])
        self.assertEqual(whole.tree[0][:3], ("ask", 1, (1,)))
        self.assertEqual(whole.tree[1][:3], ("ask", 2, (0,)))

    def test_a_case_that_breaks_has_no_children(self):
        # Place 1 is asked on some streams, but another stream breaks.
        text = "letters 2 answers 2 global g 3 proc main() read g if g == 1 then write 0 else if g == 0 then write 1 end "\
            "end end"
        answer = ask(text, [3], open_contract(2, 2).with_row(0, ("write", 0), None))
        self.assertEqual(answer.tree, (("breaks", (1,), "bad event"),))

    def test_every_whole_change_extends_exactly_one_leaf(self):
        text = "letters 1 answers 3 global g 2 proc main() read g if g then write g else write 2 end g = 1 - g end"
        contract = Contract(1, 3, [([0], 0, [1, 0, 1], True, True), ([1], 1, [1, 1, 1], False, True)])
        program = parse_program(text)
        found = mends(program, contract, [0, 1], limit=400)
        leaves = self.leaves(program, found)
        self.assertEqual(len(leaves), sum(row[0] != "ask" for row in found.tree))
        entries = [(place, sight) for place in (0, 1) for sight in program.sights(0)]
        for values in itertools.product(range(2), range(2), range(3), range(3)):
            whole = [(place, sight, value) for (place, sight), value in zip(entries, values)]
            matching = [word for change, word in leaves if set(change.entries) <= set(whole)]
            self.assertEqual(len(matching), 1)
            self.assertEqual(decide(program, contract, Change([0, 1], whole)).word, matching[0])

    def leaves(self, program, found):
        cases = {0: Change(found.places)}
        leaves = []
        for number, row in enumerate(found.tree):
            if row[0] == "ask":
                for value, child in enumerate(row[3]):
                    cases[child] = cases[number].with_entry(row[1], row[2], value)
            else:
                leaves.append((cases[number], row[0]))
        return leaves


class AnswerTest(unittest.TestCase):
    def test_an_enough_set(self):
        answer = enough(sample_program(), sample_contract(), [1, 0])
        self.assertEqual((answer.enough, answer.places, answer.cases, answer.tree), (True, (0, 1), 9, ()))
        self.assertEqual(
            list(answer.change), [(0, (0,), 0), (0, (1,), 1), (0, (2,), 0), (1, (0,), 0), (1, (1,), 1)]
        )
        self.assertEqual(answer.paper, (((0, (0,), 0, False), (), 0),))
        self.assertIs(holds(sample_program(), sample_contract(), answer.change, answer.paper), True)

    def test_a_set_that_is_not_enough(self):
        answer = enough(sample_program(), sample_contract(), [0], limit=4)
        self.assertEqual((answer.enough, answer.places, answer.change, answer.paper, answer.cases),
                         (False, (0,), None, (), 4))
        self.assertEqual(len(answer.tree), 13)

    def test_it_stops_at_the_first_case_that_keeps(self):
        # The value 1 keeps, and what is behind it is not looked at: there a call would be asked.
        text = (
            "letters 1 answers 2 global g 3 proc main() g = 0 if g == 0 then write 0 end "
            "if g == 2 then while 0 do write 0 end end end"
        )
        answer = ask(text, [0, 4], NO_ZERO)
        self.assertEqual((answer.enough, answer.cases, list(answer.change)), (True, 1, [(0, (0,), 1)]))
        self.assertNotIn((3, (2,)), answer.uses[0])
        whole = mends(parse_program(text), NO_ZERO, [0, 4])
        self.assertEqual(whole.cases, 2)
        self.assertIn((3, (2,)), whole.uses[0])

    def test_uses_are_those_of_all_cases_that_were_gone_to(self):
        text = "letters 1 answers 2 global g 3 proc main() g = 0 if g == 0 then write 0 end if g == 1 then write 0 end end"
        answer = ask(text, [0], NO_ZERO)
        # The cases: nothing set, g = 0, g = 1, g = 2.
        self.assertEqual((answer.enough, list(answer.change)), (True, [(0, (0,), 2)]))
        self.assertEqual(answer.uses, (
            ((1, (0,)), (1, (1,)), (1, (2,)), (2, (0,)), (3, (1,)), (3, (2,)), (4, (1,))),
            ((0, ("write", 0)),),
            (("finish", 0), ("silence", 0)),
        ))

    def test_uses_of_a_first_case_that_asks(self):
        text = "letters 2 answers 2 global g 3 proc main() read g if g == 1 then write 0 end end"
        answer = ask(text, [0], open_contract(2, 2))
        fates = [decide(parse_program(text), open_contract(2, 2), Change([0], entries)) for entries in
                 ([], [(0, (0,), 0)], [(0, (0,), 0), (0, (1,), 0)], answer.change.entries)]
        self.assertEqual([fate.word for fate in fates], ["asks", "asks", "asks", "keeps"])
        for part in range(3):
            union = sorted({item for fate in fates for item in fate.uses[part]})
            self.assertEqual(answer.uses[part], tuple(union))

    def test_places_in_any_order_and_as_lists(self):
        wanted = parts(enough(sample_program(), sample_contract(), (0, 1)))
        for places in ([0, 1], [1, 0], (1, 0)):
            before = list(places)
            self.assertEqual(parts(enough(sample_program(), sample_contract(), places)), wanted)
            self.assertEqual(list(places), before)

    def test_kinds_of_values(self):
        for places in ([], [0], [1], [1, 0]):
            answer = enough(sample_program(), sample_contract(), places)
            for value in (answer.enough, answer.places, answer.paper, answer.tree, answer.cases, answer.uses):
                self.assertTrue(has_only_tuples(value))
            self.assertIs(answer.enough, places == [1, 0])
            if answer.change is not None:
                self.assertIsInstance(answer.change, Change)

    def test_places_in_other_procedures(self):
        text = (
            "letters 2 answers 3 global g 3 proc main() local x 3 read x call p(0) write g end "
            "proc p(a 2) call q(a, 1) end proc q(a 2, b 3) g = b if 0 then write 2 end end"
        )
        # What the main procedure reads gets to q only through all the arguments on its way.
        states = [([1, 2], 3, [None] * 3, False, False), ([None] * 2, None, [4, None, None], False, False),
                  ([None] * 2, None, [None, 4, None], False, False), ([None] * 2, None, [None, 4, 4], False, False),
                  ([None] * 2, None, [None] * 3, True, False)]
        contract = Contract(2, 3, states)
        program = parse_program(text)
        self.assertEqual([row[1] for row in program.places], ["pass", "write", "pass", "pass", "set", "test", "write"])
        for places, wanted in (
            ([0], False), ([1], True), ([2], False), ([3], False), ([4], False), ([5], False), ([2, 3], False),
            ([0, 3], True), ([0, 4], True), ([2, 4], False), ([0, 5], False), ([3, 4], False), ([0, 2], False),
        ):
            answer = enough(program, contract, places, limit=400)
            self.assertIs(answer.enough, wanted, places)

    def test_deep_trees(self):
        # One entry after the other is asked, and only the last value of each one goes on.
        text = "letters 1 answers 2 global a 4 global b 4 global c 4 proc main() while 1 do write 0 " \
            "if a < 3 then a = a + 1 else a = 0 if b < 3 then b = b + 1 else b = 0 c = c + 1 end end end end"
        answer = ask(text, [1], NO_ZERO)
        self.assertEqual((answer.enough, answer.cases, len(answer.change)), (True, 64, 64))
        with self.assertRaises(TooManyCases):
            ask(text, [1], NO_ZERO, limit=63)


class RefusalTest(unittest.TestCase):
    def test_mismatch(self):
        for function in (enough, mends):
            with self.assertRaises(Mismatch):
                function(sample_program(), open_contract(1, 2), [7, 7])

    def test_places(self):
        for places, wanted in (
            ([2], 2), ([-1], -1), ([0, 1, 0], 0), ([1, 0, 1, 9], 1), ([1, 9, 1], 9), ([0, -1, 5], -1), ([5, -1], 5),
            ((0, 0, 1, 1), 0), ([0, 1, 2], 2),
        ):
            for function in (enough, mends):
                with self.assertRaises(InvalidPlaces) as caught:
                    function(sample_program(), sample_contract(), places)
                self.assertEqual(caught.exception.place, wanted)

    def test_order(self):
        heavy = parse_program(
            "letters 1 answers 2 global f 4 global g 4 global h 4 proc main() end proc p() " + "skip " * 30 + "end"
        )
        contract = Contract(1, 2, [open_state()] * 8)
        self.assertGreater(weight(heavy, contract), 200000)
        for function in (enough, mends):
            with self.assertRaises(Mismatch):
                function(heavy, open_contract(2, 2), [99])
            with self.assertRaises(InvalidPlaces):
                function(heavy, contract, [99])
            with self.assertRaises(TooLarge) as caught:
                function(heavy, contract, [], limit=0)
            self.assertEqual(caught.exception.what, "weight")

    def test_weight_comes_before_cases(self):
        heavy = parse_program(
            "letters 1 answers 2 global f 4 global g 4 global h 4 proc main() write 0 end proc p() "
            + "skip " * 30 + "end"
        )
        with self.assertRaises(TooLarge):
            enough(heavy, Contract(1, 2, [open_state()] * 8), [0], limit=0)

    def test_limit(self):
        answer = enough(sample_program(), sample_contract(), [0, 1], limit=9)
        self.assertEqual((answer.enough, answer.cases), (True, 9))
        for limit in (8, 3, 0):
            with self.assertRaises(TooManyCases) as caught:
                enough(sample_program(), sample_contract(), [0, 1], limit=limit)
            self.assertEqual(caught.exception.limit, limit)
        self.assertEqual(enough(sample_program(), sample_contract(), [1], limit=1).cases, 1)
        with self.assertRaises(TooManyCases):
            enough(sample_program(), sample_contract(), [1], limit=0)

    def test_limit_of_0_with_a_first_case_that_does_not_ask(self):
        self.assertEqual(enough(sample_program(), sample_contract(), [], limit=0).cases, 0)

    def test_64_cases_by_default(self):
        text = "letters 1 answers 4 global g 4 global h 4 proc main() local x 4 while 1 do write 0 {} x = x + 1 " \
            "if x == 0 then g = g + 1 if g == 0 then h = h + 1 end end end end"
        answer = ask(text.format("write 0"), [1], open_contract(1, 4))
        self.assertEqual((answer.enough, answer.cases), (True, 64))
        with self.assertRaises(TooManyCases) as caught:
            ask(text.format("write 0"), [1, 2], open_contract(1, 4))
        self.assertEqual(caught.exception.limit, 64)
        self.assertEqual(ask(text.format("write 0"), [1, 2], open_contract(1, 4), limit=128).cases, 128)

    def test_too_long_a_run(self):
        # The value 0 leads to a run of more than 5000 steps that breaks, the value 1 keeps.
        text = (
            "letters 1 answers 2 proc main() if 0 then skip else " + "call b() " * 9 + "write 0 end end proc b() "
            + "call c() " * 7 + "end proc c() " + "call d() " * 11 + "end proc d() " + "skip " * 6 + "end"
        )
        with self.assertRaises(TooLong) as caught:
            ask(text, [0], NO_ZERO)
        self.assertEqual(caught.exception.what, "run")
        turned = text.replace("then skip else", "then").replace("write 0 end end proc b", "write 0 else end end proc b")
        self.assertTrue(ask(turned, [0], NO_ZERO).enough)
        with self.assertRaises(TooLong):
            mends(parse_program(turned), NO_ZERO, [0])
        # The first case that asks is counted before the case behind it is decided.
        with self.assertRaises(TooManyCases):
            ask(text, [0], NO_ZERO, limit=0)
        self.assertRaises(TooLong, ask, text, [0], NO_ZERO, limit=1)

    def test_too_long_a_stream(self):
        text = (
            "letters 1 answers 2 global g 2 proc main() if 1 then " + "call p() " * 7 + "write g end {} end "
            + "proc p() " + "call q() " * 6 + "end proc q() " + "read g " * 6 + "end"
        )
        with self.assertRaises(TooLong) as caught:
            ask(text.format(""), [], NO_ZERO)
        self.assertEqual(caught.exception.what, "stream")
        answer = ask(text.format(""), [0], NO_ZERO)
        self.assertEqual((answer.enough, answer.cases, list(answer.change)), (True, 1, [(0, (0,), 0)]))
        with self.assertRaises(TooLong) as caught:
            mends(parse_program(text.format("")), NO_ZERO, [0])
        self.assertEqual(caught.exception.what, "stream")

    def test_whichever_comes_first_in_the_order_of_the_tree(self):
        # The case with the value 0 breaks too far away; the one with the value 1 asks twice more.
        text = (
            "letters 1 answers 2 global g 2 proc main() if 1 then write 1 write 1 write 0 else " + "call p() " * 7
            + "write g end end proc p() " + "call q() " * 6 + "end proc q() " + "read g " * 6 + "end"
        )
        for limit in (1, 2, 64):
            with self.assertRaises(TooLong):
                ask(text, [0, 1, 2], NO_ZERO, limit=limit)
        with self.assertRaises(TooManyCases):
            ask(text, [0, 1, 2], NO_ZERO, limit=0)
        swapped = (
            "letters 1 answers 2 global g 2 proc main() if 1 then " + "call p() " * 7
            + "write g else write 1 write 1 write 0 end end proc p() " + "call q() " * 6 + "end proc q() "
            + "read g " * 6 + "end"
        )
        program = parse_program(swapped)
        asked = [place for place, row in enumerate(program.places) if row[1] == "write"][1:3]
        with self.assertRaises(TooManyCases):
            enough(program, NO_ZERO, [0] + asked, limit=2)
        # The writes that follow cannot be mended, so that the tree comes to the value 1.
        with self.assertRaises(TooLong):
            enough(program, NO_ZERO, [0] + asked, limit=3)


class HeavyTest(unittest.TestCase):
    def test_near_the_greatest_weight(self):
        # See point 35: this is the heaviest program of its kind, 200000.
        program = parse_program(
            "letters 1 answers 2 global f 2 global g 2 global h 2 proc main() local x 4 while x < 3 do read f "
            "call p() write g x = x + 1 end " + "skip " * 19 + "end proc p() local y 2 read y "
            "if y == 1 then g = 1 else g = f h = 1 - h end " + "skip " * 9 + "end"
        )
        contract = Contract(1, 2, [
            ([1], 2, [None, 3], True, False), ([1], 2, [0, None], True, False), ([None], 2, [None, 2], True, False),
            ([None], None, [None] * 2, False, False), ([None], None, [None] * 2, False, False),
        ])
        self.assertEqual(weight(program, contract), 200000)
        for places, cases, count in (([4], 6, 1024), ([3], 19, 4096), ([1], 11, 2097152)):
            answer = enough(program, contract, places)
            found = mends(program, contract, places, limit=cases)
            # The program keeps the contract as it is.
            self.assertEqual((answer.enough, found.cases, found.count, found.least), (True, cases, count, ((),)))
            self.assertIs(holds(program, contract, answer.change, answer.paper), True)
            self.assertIs(tree_holds(program, contract, places, found.tree), True)
            with self.assertRaises(TooManyCases):
                mends(program, contract, places, limit=cases - 1)


if __name__ == "__main__":
    unittest.main()
