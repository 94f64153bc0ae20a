"""Points 56 to 58: edits of places, programs with edits, and drafts."""

import unittest

from allmends.edits import Draft, apply_edits, edits_at
from allmends.errors import InvalidChange, InvalidEdit, InvalidPlaces
from allmends.notation import parse_expression, parse_program, print_program
from allmends.programs import Program
from tests.samples import has_only_tuples, sample_program


def puts(*texts):
    return tuple(("put", parse_expression(text)) for text in texts)


def main_program(body, heads="global g 2 global h 3 global k 2", answers=2, inner="", rest=""):
    return parse_program(f"letters 1 answers {answers} {heads} proc main() {inner} {body} end {rest}")


class EditsAtTest(unittest.TestCase):
    def test_set(self):
        program = main_program("h = g + 1")
        self.assertEqual(edits_at(program, 0), puts("0", "1", "2", "h", "g - 1", "g * 1"))

    def test_write(self):
        program = main_program("write g == 1", answers=3)
        self.assertEqual(edits_at(program, 0), puts("0", "1", "2", "h", "g < 1") + (("drop",),))

    def test_test(self):
        for word in ("if g and h then end", "while g and h do end"):
            program = main_program(word)
            self.assertEqual(edits_at(program, 0), puts("0", "1", "g", "k", "g or h", "not (g and h)"))

    def test_pass(self):
        program = main_program("call p(g, h)", rest="proc p(a 3, b 2) end", heads="global g 2 global h 3")
        # The variables in sight of the caller, by the sizes of the parameters.
        self.assertEqual(edits_at(program, 0), puts("0", "1", "2", "h"))
        self.assertEqual(edits_at(program, 1), puts("0", "1", "g"))

    def test_variables_in_the_order_of_the_sight(self):
        program = parse_program(
            "letters 1 answers 2 global b 2 global a 2 proc main() end "
            "proc p(z 2, y 3) local d 2 d = 1 end"
        )
        self.assertEqual(edits_at(program, 0), puts("0", "b", "a", "z", "d"))

    def test_groups(self):
        def others(text):
            found = edits_at(main_program(f"h = {text}"), 0)
            return [edit[1] for edit in found if edit[1][0] not in ("number", "name")]

        for text, wanted in (
            ("g + h", ["g - h", "g * h"]), ("g - h", ["g + h", "g * h"]), ("g * h", ["g + h", "g - h"]),
            ("g == h", ["g < h"]), ("g < h", ["g == h"]), ("g and h", ["g or h"]), ("g or h", ["g and h"]),
            ("not g", []), ("g", []), ("1", []), ("g + h * 2", ["g - h * 2", "g * (h * 2)"]),
        ):
            self.assertEqual(others(text), [parse_expression(new) for new in wanted], text)

    def test_what_stands_there_is_left_out(self):
        self.assertEqual(edits_at(main_program("g = 1"), 0), puts("0", "g", "k"))
        self.assertEqual(edits_at(main_program("g = k"), 0), puts("0", "1", "g"))
        self.assertEqual(edits_at(main_program("g = 7"), 0), puts("0", "1", "g", "k"))

    def test_what_came_before_is_left_out(self):
        self.assertEqual(edits_at(main_program("if not 0 then end"), 0), puts("0", "1", "g", "k"))
        self.assertEqual(edits_at(main_program("if not g then end"), 0), puts("0", "1", "g", "k"))
        self.assertEqual(edits_at(main_program("if not h then end"), 0), puts("0", "1", "g", "k", "h"))
        self.assertEqual(edits_at(main_program("if not 2 then end"), 0), puts("0", "1", "g", "k", "2"))

    def test_negation_is_an_edit_of_tests_alone(self):
        self.assertEqual(edits_at(main_program("g = not h"), 0), puts("0", "1", "g", "k"))
        self.assertEqual(edits_at(main_program("if h then end"), 0), puts("0", "1", "g", "k", "not h"))
        self.assertEqual(edits_at(main_program("if not (not h) then end"), 0), puts("0", "1", "g", "k", "not h"))

    def test_negation_of_a_deep_test(self):
        deep = "1 + (1 + (1 + 1))"
        self.assertIn(("put", ("not", parse_expression(deep))), edits_at(main_program(f"if {deep} then end"), 0))
        deeper = f"1 + ({deep})"
        found = edits_at(main_program(f"if {deeper} then end"), 0)
        self.assertEqual(found, puts("0", "1", "g", "k", f"1 - ({deep})", f"1 * ({deep})"))
        program = main_program(f"if not ({deep}) then end")
        self.assertEqual(edits_at(program, 0), puts("0", "1", "g", "k", deep))

    def test_drop_is_the_last_edit_of_a_write(self):
        self.assertEqual(edits_at(main_program("write h"), 0), puts("0", "1", "g", "k") + (("drop",),))

    def test_places_that_do_not_exist(self):
        for place in (-1, 2, 100):
            with self.assertRaises(InvalidPlaces) as caught:
                edits_at(sample_program(), place)
            self.assertEqual(caught.exception.place, place)
        with self.assertRaises(InvalidPlaces):
            edits_at(main_program("skip"), 0)

    def test_tuples(self):
        program = Program(1, 2, [["g", 2]], [["main", [], [], [["if", ["<", ["name", "g"], ["number", 1]], [], []]]]])
        self.assertTrue(has_only_tuples(edits_at(program, 0)))


class ApplyEditsTest(unittest.TestCase):
    TEXT = (
        "letters 1 answers 3 global g 3 proc main() if g then write 1 g = 2 else while g do call p(1, g) end end "
        "read g end proc p(a 2, b 3) write a skip write b end"
    )

    def changed(self, edits):
        return print_program(apply_edits(parse_program(self.TEXT), edits))

    def test_no_edits(self):
        self.assertEqual(self.changed([]), print_program(parse_program(self.TEXT)))

    def test_each_place(self):
        text = print_program(parse_program(self.TEXT))
        for place, old, new in (
            (0, "if g then", "if 1 then"), (1, "write 1", "write 0"), (2, "g = 2", "g = 1"),
            (3, "while g do", "while 0 do"), (4, "p(1, g)", "p(0, g)"), (5, "p(1, g)", "p(1, 2)"),
            (6, "write a", "write 2"), (7, "write b", "write 1"),
        ):
            number = ("put", parse_expression([word for word in new if word.isdigit()][-1]))
            if place == 4:
                number = ("put", ("number", 0))
            self.assertEqual(self.changed([(place, number)]), text.replace(old, new), place)

    def test_several_edits_in_any_order(self):
        edits = [(7, ("put", ("number", 0))), (0, ("put", ("not", ("name", "g")))), (3, ("put", ("number", 1)))]
        text = print_program(parse_program(self.TEXT))
        text = text.replace("write b", "write 0").replace("if g then", "if not g then")
        text = text.replace("while g do", "while 1 do")
        self.assertEqual(self.changed(edits), text)
        self.assertEqual(self.changed(tuple(reversed(edits))), text)

    def test_a_dropped_write_becomes_a_skip(self):
        text = print_program(parse_program(self.TEXT))
        found = self.changed([(1, ("drop",)), (7, ("drop",)), (6, ("put", ("number", 0)))])
        self.assertEqual(
            found, text.replace("write 1", "skip").replace("write b", "skip").replace("write a", "write 0")
        )

    def test_the_program_is_not_modified(self):
        program = parse_program(self.TEXT)
        text = print_program(program)
        places = program.places
        apply_edits(program, [(1, ("drop",))])
        self.assertEqual((print_program(program), program.places), (text, places))

    def test_places_that_do_not_exist(self):
        for place in (8, -1):
            with self.assertRaises(InvalidEdit) as caught:
                self.changed([(1, ("drop",)), (place, ("put", ("number", 0)))])
            self.assertEqual(caught.exception.place, place)

    def test_places_that_stood_before(self):
        with self.assertRaises(InvalidEdit) as caught:
            self.changed([(1, ("drop",)), (2, ("put", ("number", 0))), (1, ("drop",)), (9, ("drop",))])
        self.assertEqual(caught.exception.place, 1)

    def test_edits_that_a_place_does_not_have(self):
        for place, edit in (
            (0, ("drop",)), (2, ("drop",)), (2, ("put", ("number", 2))), (2, ("put", ("number", 3))),
            (2, ("put", ("+", ("name", "g"), ("number", 1)))), (4, ("drop",)), (1, ("put", ("number", 1))),
            (2, ("put", ("name", "a"))), (7, ("put", ("name", "b"))),
        ):
            with self.assertRaises(InvalidEdit) as caught:
                self.changed([(place, edit)])
            self.assertEqual(caught.exception.place, place)

    def test_the_first_pair_in_the_order_given_is_told(self):
        good = (1, ("drop",))
        for edits, place in (
            ([(2, ("drop",)), (99, ("drop",))], 2), ([(99, ("drop",)), (2, ("drop",))], 99),
            ([good, good, (99, ("drop",))], 1), ([good, (99, ("drop",)), good], 99), ([(7, ("drop",)), (0, ("drop",))], 0),
        ):
            with self.assertRaises(InvalidEdit) as caught:
                self.changed(edits)
            self.assertEqual(caught.exception.place, place)


class DraftTest(unittest.TestCase):
    def test_attributes(self):
        draft = Draft([5, 1, 3], [(5, 0), (1, 2)])
        self.assertEqual((draft.field, draft.picks), ((1, 3, 5), ((1, 2), (5, 0))))
        self.assertEqual((Draft(()).field, Draft(()).picks), ((), ()))
        self.assertEqual(Draft([-1, 99]).field, (-1, 99))

    def test_lists_are_copied(self):
        field = [3, 1]
        picks = [[1, 4]]
        draft = Draft(field, picks)
        field.append(7)
        picks[0][1] = 9
        picks.append((3, 1))
        self.assertEqual((draft.field, draft.picks, draft.pick(1), draft.pick(3)), ((1, 3), ((1, 4),), 4, None))
        self.assertTrue(has_only_tuples(draft.picks))

    def test_refusals(self):
        for field, picks in (
            ([1, 1], []), ([2, 1, 2], []), ([1], [(2, 0)]), ([], [(0, 0)]), ([1, 2], [(1, 0), (1, 0)]),
            ([1, 2], [(1, 0), (2, 1), (1, 2)]),
        ):
            with self.assertRaises(InvalidChange):
                Draft(field, picks)

    def test_pick(self):
        draft = Draft([1, 3, 5], [(5, 0), (1, 2)])
        self.assertEqual([draft.pick(place) for place in (1, 3, 5, 7)], [2, None, 0, None])

    def test_with_pick(self):
        draft = Draft([1, 3], [(3, 2)])
        later = draft.with_pick(1, 4)
        self.assertEqual((later.field, later.picks), ((1, 3), ((1, 4), (3, 2))))
        again = later.with_pick(3, 0)
        self.assertEqual(again.picks, ((1, 4), (3, 0)))
        self.assertEqual(again.pick(3), 0)
        self.assertEqual((draft.picks, later.picks), (((3, 2),), ((1, 4), (3, 2))))
        for place in (0, 2, -1):
            with self.assertRaises(InvalidChange):
                draft.with_pick(place, 0)

    def test_fits(self):
        program = sample_program()
        many = [len(edits_at(program, place)) for place in range(2)]
        self.assertEqual(many, [3, 2])
        for field, picks, wanted in (
            ([], [], True), ([0, 1], [], True), ([0, 1], [(0, 3), (1, 2)], True), ([0, 1], [(0, 0), (1, 0)], True),
            ([0, 1], [(0, 4)], False), ([0, 1], [(0, 3), (1, 3)], False), ([0], [(0, -1)], False),
            ([0, 2], [(0, 1)], False), ([-1], [], False), ([1, 0, 2], [], False), ([2], [(2, 0)], False),
        ):
            self.assertIs(Draft(field, picks).fits(program), wanted, (field, picks))

    def test_edits(self):
        program = sample_program()
        self.assertEqual(Draft([0, 1], [(1, 2), (0, 3)]).edits(program), ((0, ("put", ("name", "x"))), (1, ("drop",))))
        self.assertEqual(Draft([0, 1], [(1, 1), (0, 0)]).edits(program), ((1, ("put", ("number", 1))),))
        self.assertEqual(Draft([0, 1], [(1, 0)]).edits(program), ())
        self.assertEqual(Draft([0, 1]).edits(program), ())
        self.assertTrue(has_only_tuples(Draft([0, 1], [(1, 2), (0, 1)]).edits(program)))


if __name__ == "__main__":
    unittest.main()
