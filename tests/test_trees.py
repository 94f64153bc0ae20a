"""Point 46: what a tree that holds must have."""

import copy
import unittest

from allmends.cases import enough
from allmends.contracts import Contract
from allmends.errors import InvalidPlaces, Mismatch, TooLarge
from allmends.mending import mends
from allmends.notation import parse_program
from allmends.trees import tree_holds
from tests.samples import open_contract, open_state, sample_contract, sample_program

NO_ZERO = open_contract(1, 2).with_row(0, ("write", 0), None)


def as_lists(value):
    return [as_lists(part) for part in value] if isinstance(value, tuple) else value


class SampleTreeTest(unittest.TestCase):
    """The tree of place 1 of the document's example, broken in one way after the other."""

    def holds(self, tree, places=(1,)):
        return tree_holds(sample_program(), sample_contract(), places, tree)

    ASK = ("ask", 1, (0,), (1, 2))
    FIRST = ("breaks", (1,), "bad event")
    SECOND = ("breaks", (0,), "bad event")

    def test_the_tree_of_enough(self):
        tree = enough(sample_program(), sample_contract(), [1]).tree
        self.assertEqual(tree, (self.ASK, self.FIRST, self.SECOND))
        self.assertIs(self.holds(tree), True)

    def test_other_places_may_be_changed_too(self):
        # The rows are the same, but with place 0 unset the runs ask.
        self.assertIs(self.holds((self.ASK, self.FIRST, self.SECOND), (1, 0)), False)

    def test_no_rows(self):
        self.assertIs(self.holds(()), False)
        self.assertIs(self.holds([]), False)

    def test_one_row(self):
        self.assertIs(self.holds((self.FIRST,)), False)
        self.assertIs(self.holds((self.FIRST,), ()), True)
        self.assertIs(self.holds((("ask", 1, (0,), ()),)), False)
        # Nor one that asks what may not be asked, and has no children.
        for place, sight in ((0, (0,)), (2, (0,)), (99, ()), (-1, (0,)), (1, (3,))):
            self.assertIs(self.holds((("ask", place, sight, ()),)), False)

    def test_children(self):
        for children in ((2, 1), (1, 1), (2, 2), (1,), (2,), (), (1, 2, 1), (1, 3), (0, 1), (1, -1), (0, 0), (1, 99)):
            self.assertIs(self.holds((("ask", 1, (0,), children), self.FIRST, self.SECOND)), False, children)
        # The children may stand in any order, as long as the rows are those of their cases.
        self.assertIs(self.holds((("ask", 1, (0,), (2, 1)), self.SECOND, self.FIRST)), True)
        self.assertIs(self.holds((self.ASK, self.SECOND, self.FIRST)), False)

    def test_a_row_that_no_row_has_as_its_child(self):
        self.assertIs(self.holds((self.ASK, self.FIRST, self.SECOND, self.FIRST)), False)
        self.assertIs(self.holds((self.FIRST, self.FIRST), ()), False)

    def test_a_child_that_is_not_greater(self):
        rows = (("ask", 1, (0,), (2, 3)), ("ask", 1, (1,), (4, 4)), self.FIRST, self.SECOND, self.FIRST)
        self.assertIs(self.holds(rows), False)
        # Two ask rows that have each other as children.
        rows = (self.FIRST, ("ask", 1, (0,), (2, 3)), ("ask", 1, (1,), (1, 4)), self.SECOND, self.SECOND)
        self.assertIs(self.holds(rows), False)
        rows = (("ask", 1, (0,), (1, 2)), ("ask", 1, (1,), (1, 3)), self.SECOND, self.FIRST)
        self.assertIs(self.holds(rows), False)
        rows = (("ask", 1, (0,), (1, 0)), self.FIRST)
        self.assertIs(self.holds(rows), False)

    def test_a_child_of_itself(self):
        self.assertIs(self.holds((self.FIRST, ("ask", 1, (0,), (1, 2)), self.SECOND)), False)
        self.assertIs(self.holds((self.FIRST, ("ask", 1, (0,), (1, 2)), self.SECOND), ()), False)
        self.assertIs(self.holds((("ask", 1, (0,), (0, 1)), self.SECOND)), False)

    def test_a_child_of_two_rows(self):
        rows = (("ask", 1, (0,), (1, 2)), ("ask", 1, (1,), (2, 3)), self.SECOND, self.FIRST)
        self.assertIs(self.holds(rows), False)
        # One leaf for both values, for which it would be right.
        rows = (("ask", 1, (0,), (1, 2)), ("ask", 1, (1,), (3, 3)), self.SECOND, self.FIRST)
        self.assertIs(self.holds(rows), False)

    def test_a_larger_tree(self):
        # Row 1 asks an entry that no run needs; both of its children are as good as one leaf.
        rows = (("ask", 1, (0,), (1, 2)), ("ask", 1, (1,), (3, 4)), self.SECOND, self.FIRST, self.FIRST)
        self.assertIs(self.holds(rows), True)
        rows = (("ask", 1, (1,), (1, 4)), ("ask", 1, (0,), (2, 3)), self.FIRST, self.SECOND,
                ("ask", 1, (0,), (5, 6)), self.FIRST, self.SECOND)
        self.assertIs(self.holds(rows), True)
        self.assertIs(self.holds(rows[:6] + (self.FIRST,)), False)

    def test_rows_in_another_order(self):
        rows = (("ask", 1, (0,), (2, 1)), self.SECOND, ("ask", 1, (1,), (4, 3)), self.FIRST, self.FIRST)
        self.assertIs(self.holds(rows), True)

    def test_an_entry_of_another_place(self):
        self.assertIs(self.holds((("ask", 0, (0,), (1, 2, 3)), self.FIRST, self.FIRST, self.FIRST)), False)
        self.assertIs(self.holds((("ask", 0, (0,), (1, 2)), self.FIRST, self.SECOND)), False)

    def test_a_place_or_a_sight_that_does_not_exist(self):
        for place, sight in ((2, (0,)), (-1, (0,)), (1, (3,)), (1, (-1,)), (1, ()), (1, (0, 0)), (99, ())):
            self.assertIs(self.holds((("ask", place, sight, (1, 2)), self.FIRST, self.SECOND)), False, (place, sight))
            # Also where both children are trees that hold.
            rows = (("ask", place, sight, (1, 4)), ("ask", 1, (0,), (2, 3)), self.FIRST, self.SECOND,
                    ("ask", 1, (0,), (5, 6)), self.FIRST, self.SECOND)
            self.assertIs(self.holds(rows), False, (place, sight))

    def test_an_entry_that_a_row_above_asks(self):
        rows = (("ask", 1, (0,), (1, 2)), ("ask", 1, (0,), (3, 4)), self.SECOND, self.FIRST, self.FIRST)
        self.assertIs(self.holds(rows), False)
        rows = (("ask", 1, (0,), (1, 2)), ("ask", 1, (0,), (3, 4)), self.SECOND, self.FIRST, self.SECOND)
        self.assertIs(self.holds(rows), False)
        # In another branch it may be asked again.
        both = (("ask", 1, (2,), (1, 4)), ("ask", 1, (0,), (2, 3)), self.FIRST, self.SECOND, ("ask", 1, (0,), (5, 6)),
                self.FIRST, self.SECOND)
        self.assertIs(self.holds(both), True)

    def test_too_few_and_too_many_children(self):
        self.assertIs(self.holds((("ask", 1, (0,), (1,)), self.FIRST)), False)
        rows = (("ask", 1, (0,), (1, 2, 3)), self.FIRST, self.SECOND, self.SECOND)
        self.assertIs(self.holds(rows), False)
        whole = enough(sample_program(), sample_contract(), [0]).tree
        self.assertIs(self.holds(whole, [0]), True)
        self.assertEqual(whole[9][3], (10, 11, 12))
        self.assertIs(self.holds(whole[:9] + (whole[9][:3] + ((10, 11),),) + whole[10:12], [0]), False)

    def test_streams(self):
        for stream in ((2,), (-1,), (1, 2), (1, -1), (1,) * 201, (1,) + (0,) * 300, (1, 0, 5)):
            self.assertIs(self.holds((self.ASK, ("breaks", stream, "bad event"), self.SECOND)), False, stream)
        # Another stream on which the run breaks is as good, up to 200 letters.
        for stream in ((1, 0), (1, 1, 1), (1,) * 200):
            self.assertIs(self.holds((self.ASK, ("breaks", stream, "bad event"), self.SECOND)), True, stream)
        for stream in ((), (0,), (0, 1)):
            self.assertIs(self.holds((self.ASK, ("breaks", stream, "bad event"), self.SECOND)), False, stream)

    def test_verdicts(self):
        for verdict in ("bad finish", "bad silence", "finished", "endless", "silent", "asks", "", "event"):
            self.assertIs(self.holds((self.ASK, ("breaks", (1,), verdict), self.SECOND)), False, verdict)

    def test_a_verdict_that_the_run_has_but_that_does_not_break(self):
        self.assertIs(self.holds((self.ASK, ("breaks", (0,), "finished"), self.SECOND)), False)
        text = "letters 1 answers 2 proc main() {} end"
        for body, verdict in (("", "finished"), ("while 1 do end", "silent"), ("while 1 do write 1 end", "endless")):
            program = parse_program(text.format(body))
            self.assertIs(tree_holds(program, open_contract(), [], [("breaks", (), verdict)]), False)
        program = parse_program(text.format("write 1"))
        self.assertIs(tree_holds(program, open_contract(), [0], [("breaks", (), "asks")]), False)

    def test_a_keeps_row(self):
        main = ((0, (0,), 0, False), (), 0)
        self.assertIs(self.holds((self.ASK, ("keeps", (main,)), self.SECOND)), False)
        whole = mends(sample_program(), sample_contract(), [0, 1], limit=400).tree
        self.assertIs(self.holds(whole, [0, 1]), True)
        at = [number for number, row in enumerate(whole) if row[0] == "keeps"][0]
        for paper in ((), (main, main), (((0, (1,), 0, False), (), 0),)):
            self.assertIs(self.holds(whole[:at] + (("keeps", paper),) + whole[at + 1:], [0, 1]), False)
        self.assertIs(self.holds(whole[:at] + (("breaks", (), "bad event"),) + whole[at + 1:], [0, 1]), False)
        more = ("keeps", (main, ((0, (1,), 4, False), (), 5)))
        self.assertIs(self.holds(whole[:at] + (more,) + whole[at + 1:], [0, 1]), False)
        larger = ("keeps", (((0, (0,), 0, False), (((), 0, True, True),), 7),))
        self.assertIs(self.holds(whole[:at] + (larger,) + whole[at + 1:], [0, 1]), True)

    def test_lists_that_are_changed_behind_the_call(self):
        tree = as_lists((self.ASK, self.FIRST, self.SECOND))
        before = copy.deepcopy(tree)
        self.assertIs(self.holds(tree), True)
        self.assertEqual(tree, before)
        tree[0][3].reverse()
        self.assertIs(self.holds(tree), False)
        tree[0][3].reverse()
        tree[1][1].append(2)
        self.assertIs(self.holds(tree), False)
        tree[1][1].pop()
        self.assertIs(self.holds(tree), True)
        tree.pop()
        self.assertIs(self.holds(tree), False)


class OtherTreesTest(unittest.TestCase):
    def test_any_order_of_entries(self):
        text = "letters 2 answers 2 global g 3 proc main() read g if g == 1 then write 0 else write 1 end write 1 end"
        strict = Contract(2, 2, [([1, 1], 1, [None] * 2, True, True), ([None] * 2, None, [None, 2], True, True),
                                 ([None] * 2, None, [None] * 2, True, True)])
        program = parse_program(text)
        tree = enough(program, strict, [1, 2]).tree
        self.assertIs(tree_holds(program, strict, [1, 2], tree), True)
        # The second write is wrong whatever the first one was.
        other = (
            ("ask", 2, (2,), (1, 2)), ("breaks", (), "bad event"), ("breaks", (), "bad event"),
        )
        self.assertIs(tree_holds(program, strict, [1, 2], other), True)
        another = (
            ("ask", 1, (1,), (1, 2)), ("breaks", (1,), "bad event"), ("ask", 2, (0,), (3, 4)),
            ("breaks", (0,), "bad event"), ("breaks", (0, 1), "bad event"),
        )
        self.assertIs(tree_holds(program, strict, [2, 1], another), True)
        self.assertIs(tree_holds(program, strict, [2], another), False)
        wrong = another[:4] + (("breaks", (), "bad event"),)
        self.assertIs(tree_holds(program, strict, [2, 1], wrong), False)

    def test_each_verdict_that_breaks(self):
        head = "letters 1 answers 2 global g 2 proc main() "
        strict = open_contract(finish=False, silence=False)
        for body, contract, verdict in (
            ("write 0", NO_ZERO, "bad event"), ("skip", strict, "bad finish"), ("while 1 do end", strict, "bad silence")
        ):
            program = parse_program(head + body + " end")
            for told in ("bad event", "bad finish", "bad silence"):
                self.assertIs(tree_holds(program, contract, [], (("breaks", (), told),)), told == verdict)

    def test_a_run_of_5000_and_of_5001_steps(self):
        text = (
            "letters 1 answers 2 proc main() " + "call b() " * 9 + "{} write 0 end proc b() " + "call c() " * 7
            + "end proc c() " + "call d() " * 11 + "end proc d() " + "skip " * 5 + "end"
        )
        tree = (("breaks", (), "bad event"),)
        self.assertIs(tree_holds(parse_program(text.format("skip " * 4)), NO_ZERO, [], tree), True)
        self.assertIs(tree_holds(parse_program(text.format("skip " * 5)), NO_ZERO, [], tree), False)

    def test_children_get_the_values_in_order(self):
        text = "letters 1 answers 4 global g 4 proc main() write 0 end"
        contract = Contract(1, 4, [([0], 0, [None, 1, 2, None], True, True), ([0], 0, [0] * 4, False, True),
                                   ([0], 0, [0] * 4, False, True)])
        program = parse_program(text)
        tree = enough(program, contract, [0]).tree
        self.assertEqual([row[2] for row in tree[1:]], ["bad event", "bad finish", "bad finish", "bad event"])
        self.assertIs(tree_holds(program, contract, [0], tree), True)
        for children in ((2, 1, 3, 4), (1, 2, 4, 3), (4, 3, 1, 2)):
            self.assertIs(tree_holds(program, contract, [0], ((tree[0][:3] + (children,)),) + tree[1:]), False)
        for children in ((1, 3, 2, 4), (4, 2, 3, 1), (4, 3, 2, 1)):
            self.assertIs(tree_holds(program, contract, [0], ((tree[0][:3] + (children,)),) + tree[1:]), True)

    def test_a_deep_tree(self):
        # One ask row below the other, each with a leaf: far more than a stack of calls bears.
        text = "letters 1 answers 2 global a 4 global b 4 global c 4 proc main() {} end"
        program = parse_program(text.format("if 0 then write 1 end " * 12))
        writes = [place for place, row in enumerate(program.places) if row[1] == "write"]
        rows = []
        for place in writes:
            for sight in program.sights(0):
                rows.append(("ask", place, sight, (len(rows) + 1, len(rows) + 2)))
                rows.append(("breaks", (), "bad finish"))
        rows.append(("breaks", (), "bad finish"))
        contract = open_contract(finish=False)
        self.assertIs(tree_holds(program, contract, writes, rows), True)
        self.assertIs(tree_holds(program, contract, writes[:-1], rows), False)
        self.assertIs(tree_holds(program, contract, writes, rows[:-1] + [("breaks", (), "bad event")]), False)

    def test_a_tree_near_the_limit(self):
        program = parse_program(
            "letters 1 answers 2 global a 4 global b 4 global c 4 proc main() while 1 do write 0 "
            "if a < 3 then a = a + 1 else a = 0 if b < 3 then b = b + 1 else b = 0 c = c + 1 end end "
            "write 0 write 0 end end"
        )
        writes = [place for place, row in enumerate(program.places) if row[1] == "write"]
        found = mends(program, NO_ZERO, writes, limit=192)
        self.assertEqual((found.cases, len(found.tree), found.count), (192, 385, 1))
        self.assertIs(tree_holds(program, NO_ZERO, writes, found.tree), True)
        self.assertIs(tree_holds(program, NO_ZERO, list(reversed(writes)), found.tree), True)
        self.assertIs(tree_holds(program, NO_ZERO, writes[:2], found.tree), False)
        changed = list(found.tree)
        changed[200] = ("breaks", (), "bad finish")
        self.assertIs(tree_holds(program, NO_ZERO, writes, changed), False)


class RefusalTest(unittest.TestCase):
    def test_refusals_in_order(self):
        heavy = parse_program(
            "letters 1 answers 2 global f 4 global g 4 global h 4 proc main() end proc p() " + "skip " * 30 + "end"
        )
        contract = Contract(1, 2, [open_state()] * 8)
        with self.assertRaises(Mismatch):
            tree_holds(heavy, open_contract(2, 2), [9, 9], ())
        with self.assertRaises(InvalidPlaces) as caught:
            tree_holds(heavy, contract, [9, 9], ())
        self.assertEqual(caught.exception.place, 9)
        with self.assertRaises(TooLarge) as caught:
            tree_holds(heavy, contract, [], ())
        self.assertEqual(caught.exception.what, "weight")
        for places, place in (([0, 1, 0], 0), ([-1], -1), ([1, 2], 2)):
            with self.assertRaises(InvalidPlaces) as caught:
                tree_holds(sample_program(), sample_contract(), places, ())
            self.assertEqual(caught.exception.place, place)


if __name__ == "__main__":
    unittest.main()
