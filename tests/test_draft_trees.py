"""Point 63: what a tree of drafts must have that holds."""

import copy
import unittest

from allmends.editlists import draft_tree_holds, least_edits
from allmends.errors import InvalidPlaces, Mismatch, TooLarge
from allmends.notation import parse_program
from tests.samples import as_lists, heavy_pair, open_contract

NO_ZERO = open_contract(1, 2).with_row(0, ("write", 0), None)
MAIN = ((0, (), 0, False), (), 0)
KEEPS = ("keeps", (MAIN,))
BREAKS = ("breaks", (), "bad event")
# Each write has two edits: the other number, and to drop it.
TWO = "letters 1 answers 2 proc main() write 0 write 0 end"
WHOLE = (
    ("ask", 0, (), (1, 2, 6)), BREAKS,
    ("ask", 1, (), (3, 4, 5)), BREAKS, KEEPS, KEEPS,
    ("ask", 1, (), (7, 8, 9)), BREAKS, KEEPS, KEEPS,
)
# With one edit at most, a draft that has it may only leave the other place as it is.
NARROW = (("ask", 0, (), (1, 2, 4)), BREAKS, ("ask", 1, (), (3,)), BREAKS, ("ask", 1, (), (5,)), BREAKS)


def holds(tree, field=(0, 1), width=2, text=TWO, contract=NO_ZERO):
    return draft_tree_holds(parse_program(text), contract, field, width, tree)


class DraftTreeTest(unittest.TestCase):
    def test_the_trees_of_least_edits(self):
        program = parse_program(TWO)
        for width, tree in ((2, WHOLE), (3, WHOLE), (1, NARROW)):
            self.assertEqual(least_edits(program, NO_ZERO, [0, 1], width=width).tree, tree)
            self.assertIs(holds(tree, width=width), True)
            self.assertIs(holds(tree, (1, 0), width), True)

    def test_another_width(self):
        self.assertIs(holds(WHOLE, width=1), False)
        self.assertIs(holds(WHOLE, width=0), False)
        self.assertIs(holds(NARROW, width=2), False)
        self.assertIs(holds(NARROW, width=0), False)
        none = (("ask", 0, (), (1,)), BREAKS)
        self.assertIs(holds(none, width=0), True)
        self.assertIs(holds(none, width=1), False)
        self.assertIs(holds((BREAKS,), (), 0), True)

    def test_places_in_another_order(self):
        other = (
            ("ask", 1, (), (1, 3, 7)), ("ask", 0, (), (2, 11, 12)), BREAKS,
            ("ask", 0, (), (4, 5, 6)), BREAKS, KEEPS, KEEPS,
            ("ask", 0, (), (8, 9, 10)), BREAKS, KEEPS, KEEPS, BREAKS, BREAKS,
        )
        self.assertIs(holds(other), True)
        self.assertIs(holds(other, width=1), False)
        # Rows are right for their drafts only, wherever they stand.
        self.assertIs(holds(other[:2] + (KEEPS,) + other[3:]), False)
        swapped = (("ask", 0, (), (1, 6, 2)),) + WHOLE[1:]
        self.assertIs(holds(swapped), True)
        self.assertIs(holds((("ask", 0, (), (2, 1, 6)),) + WHOLE[1:]), False)

    def test_no_rows(self):
        self.assertIs(holds(()), False)
        self.assertIs(holds([]), False)

    def test_one_row(self):
        self.assertIs(holds((BREAKS,)), False)
        self.assertIs(holds((BREAKS,), ()), True)
        self.assertIs(holds((KEEPS,), ()), False)
        self.assertIs(holds((KEEPS,), (), contract=open_contract()), True)
        for place, sight in ((0, ()), (0, (0,)), (2, ()), (99, ()), (-1, ())):
            self.assertIs(holds((("ask", place, sight, ()),)), False)

    def test_a_place_that_is_not_in_the_field(self):
        self.assertIs(holds(WHOLE, (0,)), False)
        self.assertIs(holds(WHOLE, (1,)), False)
        for place in (2, 99, -1):
            self.assertIs(holds((("ask", place, (), (1, 2, 6)),) + WHOLE[1:]), False)
            self.assertIs(holds(WHOLE[:2] + (("ask", place, (), (3, 4, 5)),) + WHOLE[3:]), False)

    def test_a_place_that_a_row_above_asks(self):
        again = (("ask", 0, (), (1, 2, 3)), ("ask", 0, (), (4, 5, 6)), BREAKS, BREAKS, BREAKS, BREAKS, BREAKS)
        text = TWO.replace("write 0 write 0", "write 0 write 0 write 0")
        self.assertIs(holds(again, text=text, field=(0,)), False)
        self.assertIs(holds((again[0],) + (BREAKS,) * 3, text=text, field=(0,)), True)
        # In another branch it may be asked again.
        self.assertIs(holds(WHOLE), True)
        self.assertIs(holds(WHOLE[:2] + (("ask", 0, (), (3, 4, 5)),) + WHOLE[3:]), False)

    def test_a_sight_that_is_not_empty(self):
        for sight in ((0,), (0, 0), (False,), ((),)):
            self.assertIs(holds((("ask", 0, sight, (1, 2, 6)),) + WHOLE[1:]), False)
            self.assertIs(holds(WHOLE[:2] + (("ask", 1, sight, (3, 4, 5)),) + WHOLE[3:]), False)
        # Nor may it be a sight of the procedure.
        text = "letters 1 answers 2 global g 2 proc main() write g end"
        tree = (("ask", 0, (), (1, 2, 3, 4)), BREAKS, BREAKS, ("keeps", (((0, (0,), 0, False), (), 0),)),
                ("keeps", (((0, (0,), 0, False), (), 0),)))
        self.assertIs(holds(tree, (0,), text=text), True)
        self.assertIs(holds((("ask", 0, (0,), (1, 2, 3, 4)),) + tree[1:], (0,), text=text), False)

    def test_too_few_and_too_many_children(self):
        self.assertIs(holds(WHOLE[:2] + (("ask", 1, (), (3, 4)),) + WHOLE[3:]), False)
        few = (("ask", 0, (), (1, 2)),) + WHOLE[1:6]
        self.assertIs(holds(few), False)
        many = (("ask", 0, (), (1, 2, 6, 10)),) + WHOLE[1:] + (BREAKS,)
        self.assertIs(holds(many), False)

    def test_children_behind_as_many_picks_as_may_be(self):
        # One child only, also where another one would be right.
        two = (("ask", 0, (), (1, 2, 4)), BREAKS, ("ask", 1, (), (3, 6)), BREAKS, ("ask", 1, (), (5,)), BREAKS, KEEPS)
        self.assertIs(holds(two, width=1), False)
        three = (("ask", 0, (), (1, 2, 4)), BREAKS, ("ask", 1, (), (3, 6, 7)), BREAKS, ("ask", 1, (), (5,)), BREAKS,
                 KEEPS, KEEPS)
        self.assertIs(holds(three, width=1), False)
        none = (("ask", 0, (), (1, 2, 3)), BREAKS, ("ask", 1, (), ()), ("ask", 1, (), (4,)), BREAKS)
        self.assertIs(holds(none, width=1), False)
        # A pick of 0 is not counted.
        first = (("ask", 1, (), (1, 5, 7)), ("ask", 0, (), (2, 3, 4)), BREAKS, BREAKS, BREAKS, ("ask", 0, (), (6,)),
                 BREAKS, ("ask", 0, (), (8,)), BREAKS)
        self.assertIs(holds(first, width=1), True)
        narrow = (("ask", 1, (), (1, 3, 5)), ("ask", 0, (), (2,)), BREAKS, ("ask", 0, (), (4,)), BREAKS,
                  ("ask", 0, (), (6,)), BREAKS)
        self.assertIs(holds(narrow, width=1), False)

    def test_row_numbers(self):
        for children in ((1, 2, 2), (1, 1, 2), (0, 2, 6), (1, 2, 10), (1, 2, -1), (2, 1, 1)):
            self.assertIs(holds((("ask", 0, (), children),) + WHOLE[1:]), False, children)
        self.assertIs(holds(WHOLE + (BREAKS,)), False)
        backwards = WHOLE[:6] + (("ask", 1, (), (5, 8, 9)),) + WHOLE[7:]
        self.assertIs(holds(backwards), False)

    def test_breaks_rows(self):
        for stream, verdict in (((0,), "bad event"), ((0, 0), "bad event"), ((0,) * 200, "bad event")):
            self.assertIs(holds(WHOLE[:1] + (("breaks", stream, verdict),) + WHOLE[2:]), True)
        for stream, verdict in (((1,), "bad event"), ((-1,), "bad event"), ((0,) * 201, "bad event"), ((), "bad finish"),
                                ((), "bad silence"), ((), "finished"), ((), "asks")):
            self.assertIs(holds(WHOLE[:1] + (("breaks", stream, verdict),) + WHOLE[2:]), False, (stream, verdict))
        self.assertIs(holds(WHOLE[:4] + (BREAKS,) + WHOLE[5:]), False)

    def test_keeps_rows(self):
        self.assertIs(holds(WHOLE[:4] + (("keeps", ()),) + WHOLE[5:]), False)
        self.assertIs(holds(WHOLE[:4] + (("keeps", (MAIN, MAIN)),) + WHOLE[5:]), False)
        self.assertIs(holds(WHOLE[:3] + (KEEPS,) + WHOLE[4:]), False)
        self.assertIs(holds(WHOLE[:4] + (("keeps", (((0, (), 0, False), (), 5),)),) + WHOLE[5:]), True)

    def test_a_draft_that_keeps_with_unset_places(self):
        text = "letters 1 answers 2 proc main() if 1 then write 0 else write 1 end end"
        tree = least_edits(parse_program(text), NO_ZERO, [0, 1, 2]).tree
        self.assertIs(holds(tree, (0, 1, 2), text=text), True)
        self.assertEqual(tree[0], ("ask", 0, (), (1, 5, 9)))
        asked = [row[1] for row in tree if row[0] == "ask"]
        self.assertEqual(asked, [0, 1, 2, 2])
        # It may be asked on all the same, where no run needs the place.
        more = tree[:3] + (("ask", 2, (), (len(tree), len(tree) + 1, len(tree) + 2)),) + tree[4:] + (KEEPS,) * 3
        self.assertEqual(tree[3], KEEPS)
        self.assertIs(holds(more, (0, 1, 2), text=text), True)

    def test_lists(self):
        tree = as_lists(WHOLE)
        before = copy.deepcopy(tree)
        self.assertIs(holds(tree, [0, 1]), True)
        self.assertEqual(tree, before)
        tree[0][3].reverse()
        self.assertIs(holds(tree), False)
        tree[0][3].reverse()
        tree[4][1][0][1].append([[], 0, False, True])
        self.assertIs(holds(tree), True)
        tree.pop()
        self.assertIs(holds(tree), False)


class RefusalTest(unittest.TestCase):
    def test_refusals_in_order(self):
        heavy, contract = heavy_pair()
        nine = list(range(9))
        with self.assertRaises(Mismatch):
            draft_tree_holds(heavy, open_contract(2, 2), nine + nine, 2, ())
        for field, place in ((nine + [0], 0), (nine + [99], 99), ([-1] + nine, -1)):
            with self.assertRaises(InvalidPlaces) as caught:
                draft_tree_holds(heavy, contract, field, 2, ())
            self.assertEqual(caught.exception.place, place)
        for field, what in ((nine, "field"), (nine[:8], "weight")):
            with self.assertRaises(TooLarge) as caught:
                draft_tree_holds(heavy, contract, field, 0, ())
            self.assertEqual(caught.exception.what, what)


if __name__ == "__main__":
    unittest.main()
