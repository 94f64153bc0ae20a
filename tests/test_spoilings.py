"""Points 66 to 68: what a spoiling must have that holds, and what `spoiling_holds` refuses."""

import copy
import unittest

from allmends.contracts import Contract
from allmends.errors import InvalidPlaces, Mismatch, TooLarge
from allmends.notation import parse_program
from allmends.plans import spoiling_holds
from tests.samples import as_lists, open_contract, sample_contract, sample_program

NO_ZERO = open_contract(1, 2).with_row(0, ("write", 0), None)


def replaced(items, at, item):
    return items[:at] + (item,) + items[at + 1:]


class ReadingTest(unittest.TestCase):
    """A spoiling of the document's example, where place 0 (the set) is chosen: the letter 1 spoils it."""

    MAIN = (0, (0,), 0, False)
    ROWS = (
        (MAIN, (), (0, 2, (0,), 2, False), (("bad", ("write", 0)),)),
        (MAIN, (), (0, 2, (1,), 2, False), (("bad", ("write", 0)),)),
        (MAIN, (), (0, 2, (2,), 2, False), (("bad", ("write", 0)),)),
        (MAIN, (), (0, 1, (1,), 2, False), (("go", None, 0), ("go", None, 1), ("go", None, 2))),
        (MAIN, (), (0, 0, (0,), 0, False), (("go", ("read", 1), 3),)),
    )

    def holds(self, rows, places=(0,), contract=None):
        return spoiling_holds(sample_program(), contract or sample_contract(), places, rows)

    def with_reasons(self, at, *reasons):
        return replaced(self.ROWS, at, self.ROWS[at][:3] + (reasons,))

    def test_the_spoiling(self):
        self.assertIs(self.holds(self.ROWS), True)
        self.assertIs(self.holds(list(self.ROWS)), True)

    def test_no_rows(self):
        self.assertIs(self.holds(()), False)
        self.assertIs(self.holds([]), False)

    def test_rows_in_another_order(self):
        other = (
            self.ROWS[2], self.ROWS[0], self.ROWS[1],
            self.ROWS[3][:3] + ((("go", None, 1), ("go", None, 2), ("go", None, 0)),), self.ROWS[4],
        )
        self.assertIs(self.holds(other), True)
        self.assertIs(self.holds(self.ROWS[:3][::-1] + self.ROWS[3:]), False)

    def test_a_row_twice_and_rows_that_nothing_needs(self):
        self.assertIs(self.holds(self.ROWS[:1] + self.ROWS), False)
        self.assertIs(self.holds(self.ROWS[:4] + self.ROWS[:1] + self.ROWS[4:]), True)
        more = (self.MAIN, (), (0, 2, (2,), 2, True), (("bad", ("write", 0)),))
        self.assertIs(self.holds(self.ROWS[:4] + (more,) + self.ROWS[4:]), True)
        wrong = (self.MAIN, (), (0, 2, (2,), 1, True), (("bad", ("write", 0)),))
        self.assertIs(self.holds(self.ROWS[:4] + (wrong,) + self.ROWS[4:]), False)

    def test_the_last_row(self):
        self.assertIs(self.holds(self.ROWS[:4]), False)
        self.assertIs(self.holds(self.ROWS + self.ROWS[:1]), False)
        self.assertIs(self.holds(self.ROWS[4:] + self.ROWS[:4]), False)
        for at in range(4):
            self.assertIs(self.holds(self.ROWS[at:at + 1]), False)

    def test_the_last_row_forbids_nothing_and_has_the_opening_of_the_main_call(self):
        forbidden = (((), 4, False),)
        self.assertIs(self.holds(tuple((self.MAIN, forbidden, *row[2:]) for row in self.ROWS)), False)
        for opening in ((0, (1,), 0, False), (0, (0,), 1, False), (0, (0,), 0, True)):
            self.assertIs(self.holds(tuple((opening, *row[1:]) for row in self.ROWS)), False)

    def test_one_reason_for_each_choice(self):
        first, second, third = self.ROWS[3][3]
        for reasons in ((), (first,), (first, second), (first, second, third, third), (second, first, third)):
            self.assertIs(self.holds(self.with_reasons(3, *reasons)), False)
        for at in (0, 4):
            reason = self.ROWS[at][3][0]
            self.assertIs(self.holds(self.with_reasons(at)), False)
            self.assertIs(self.holds(self.with_reasons(at, reason, reason)), False)

    def test_other_places(self):
        # With no choice at the set statement, one reason is right; with a choice at the write, two.
        one = self.with_reasons(3, ("go", None, 0))
        self.assertIs(self.holds(one, ()), True)
        self.assertIs(self.holds(self.with_reasons(3, ("go", None, 1)), ()), False)
        self.assertIs(self.holds(one, (0,)), False)
        self.assertIs(self.holds(self.ROWS, (0, 1)), False)
        self.assertIs(self.holds(self.ROWS, ()), False)

    def test_bad(self):
        for event in (("write", 1), ("read", 0), ("read", 1), ("over",)):
            self.assertIs(self.holds(self.with_reasons(0, ("bad", event))), False, event)
        # The event is right in state 1.
        self.assertIs(self.holds((((self.MAIN, (), (0, 2, (0,), 1, False), (("bad", ("write", 0)),)),) + self.ROWS[1:])),
                      False)
        # An event that can be made, but is right, and one that is wrong, but that the step does not make.
        self.assertIs(self.holds(self.with_reasons(4, ("bad", ("read", 1)))), False)
        strict = sample_contract().with_row(0, ("read", 1), None)
        self.assertIs(self.holds(self.with_reasons(4, ("bad", ("read", 1))), contract=strict), True)
        self.assertIs(self.holds(self.with_reasons(4, ("bad", ("over",))), contract=strict), False)
        self.assertIs(self.holds(self.with_reasons(4, ("bad", ("write", 0))), contract=strict), False)
        self.assertIs(self.holds(self.ROWS, contract=strict), False)
        over = sample_contract().with_row(0, ("over",), None)
        self.assertIs(self.holds(self.with_reasons(4, ("bad", ("over",))), contract=over), True)

    def test_go(self):
        for event, row in ((None, 3), (("read", 0), 3), (("over",), 3), (("write", 1), 3), (("read", 1), 0),
                           (("read", 1), 2)):
            self.assertIs(self.holds(self.with_reasons(4, ("go", event, row))), False, (event, row))
        for event in (("read", 1), ("over",), ("write", 0)):
            self.assertIs(
                self.holds(self.with_reasons(3, ("go", event, 0), ("go", None, 1), ("go", None, 2))), False
            )

    def test_row_numbers(self):
        for number in (4, 5, 99, -1, -2, -5):
            self.assertIs(self.holds(self.with_reasons(4, ("go", ("read", 1), number))), False, number)
            self.assertIs(
                self.holds(self.with_reasons(3, ("go", None, number), ("go", None, 1), ("go", None, 2))), False
            )
        # A row with the right node that stands behind.
        later = (self.ROWS[3], *self.ROWS[:3], self.ROWS[4][:3] + ((("go", ("read", 1), 0),),))
        behind = (later[0][:3] + ((("go", None, 1), ("go", None, 2), ("go", None, 3)),), *later[1:])
        self.assertIs(self.holds(behind), False)
        # A row that leads to itself: the loop would never spoil.
        loop = parse_program("letters 1 answers 2 proc main() while 1 do end end")
        for number in (0, 1, -1, -2):
            own = (((0, (), 0, False), (), (0, 0, (), 0, False), (("go", None, number),)),)
            self.assertIs(spoiling_holds(loop, open_contract(), (), own), False)
            self.assertIs(spoiling_holds(loop, open_contract(), (), own * 2), False)

    def test_rows_of_another_opening_or_with_other_forbidden_outcomes(self):
        for opening, forbidden in (((0, (0,), 0, True), ()), ((0, (0,), 1, False), ()), (self.MAIN, (((), 0, False),))):
            other = (opening, forbidden, *self.ROWS[3][2:])
            rows = tuple((opening, forbidden, *row[2:]) for row in self.ROWS[:3]) + (other, self.ROWS[4])
            self.assertIs(self.holds(rows), False)
            self.assertIs(self.holds(replaced(self.ROWS, 0, (opening, forbidden, *self.ROWS[0][2:]))), False)

    def test_finish(self):
        text = "letters 1 answers 2 proc main() write 1 end"
        main = (0, (), 0, False)
        rows = (
            (main, (), (0, 1, (), 0, False), (("finish",),)), (main, (), (0, 0, (), 0, False), (("go", ("write", 1), 0),)),
        )
        for finish in (True, False):
            contract = open_contract(finish=finish)
            self.assertIs(spoiling_holds(parse_program(text), contract, (), rows), not finish)
        strict = open_contract(finish=False)
        for wrong in ((("finish",), 1), (("outcome",), 0), (("bad", ("write", 1)), 0), (("go", None, 0), 0)):
            reason, at = wrong
            self.assertIs(
                spoiling_holds(parse_program(text), strict, (), replaced(rows, at, rows[at][:3] + ((reason,),))), False
            )
        # Also where its outcome is forbidden, the main procedure does not end with one.
        outcome = (((), 0, False),)
        told = (main, outcome, (0, 1, (), 0, False), (("outcome",),))
        last = (*rows[1][:3], (("go", ("write", 1), 1),))
        for first, holds in ((rows[0], True), ((main, outcome, *rows[0][2:]), True), (told, False)):
            self.assertIs(spoiling_holds(parse_program(text), strict, (), (first, rows[0], last)), holds)

    def test_lists_that_are_changed_behind_the_call(self):
        rows = as_lists(self.ROWS)
        before = copy.deepcopy(rows)
        self.assertIs(self.holds(rows, [0]), True)
        self.assertEqual(rows, before)
        rows[3][3].reverse()
        self.assertIs(self.holds(rows), False)
        rows[3][3].reverse()
        rows[0][3].append(["finish"])
        self.assertIs(self.holds(rows), False)
        rows[0][3].pop()
        self.assertIs(self.holds(rows), True)
        rows.pop()
        self.assertIs(self.holds(rows), False)


class CallTest(unittest.TestCase):
    """A spoiling with a call: the callee sets the global that is written to 0."""

    TEXT = "letters 1 answers 2 global g 2 proc main() call p(0) write g end proc p(a 2) g = a end"
    MAIN = (0, (0,), 0, False)
    CALLEE = (1, (0, 0), 0, False)
    ZERO = (((0,), 0, False),)
    ROWS = (
        (CALLEE, ZERO, (1, 1, (0, 0), 0, False), (("outcome",),)),
        (CALLEE, ZERO, (1, 0, (0, 0), 0, False), (("go", None, 0),)),
        (MAIN, (), (0, 1, (0,), 0, False), (("bad", ("write", 0)),)),
        (MAIN, (), (0, 0, (0,), 0, False), (("call", 1, (2,)),)),
    )

    def holds(self, rows, places=(), contract=NO_ZERO):
        return spoiling_holds(parse_program(self.TEXT), contract, places, rows)

    def with_row(self, at, **parts):
        opening, forbidden, node, reasons = self.ROWS[at]
        named = {"opening": opening, "forbidden": forbidden, "node": node, "reasons": reasons, **parts}
        return replaced(self.ROWS, at, tuple(named.values()))

    def test_the_spoiling(self):
        self.assertIs(self.holds(self.ROWS), True)
        self.assertIs(self.holds((self.ROWS[2], *self.ROWS[:2], self.ROWS[3])), False)
        other = (self.ROWS[2], self.ROWS[0], self.ROWS[1][:3] + ((("go", None, 1),),),
                 self.ROWS[3][:3] + ((("call", 2, (0,)),),))
        self.assertIs(self.holds(other), True)

    def test_choices(self):
        self.assertIs(self.holds(self.ROWS, (0,)), False)
        self.assertIs(self.holds(self.ROWS, (1,)), False)
        self.assertIs(self.holds(self.ROWS, (2,)), False)
        two = self.with_row(3, reasons=(("call", 1, (2,)), ("call", 1, (2,))))
        self.assertIs(self.holds(two, (0,)), False)

    def test_the_row_of_the_callee(self):
        for row, rows in ((0, (2,)), (2, (2,)), (3, (2,)), (4, (2,)), (-1, (2,)), (-3, (2,)), (1, (1,)), (1, (0,)),
                          (1, (3,)), (1, (-2,)), (1, (9,)), (1, ()), (1, (2, 2)), (2, ())):
            self.assertIs(self.holds(self.with_row(3, reasons=(("call", row, rows),))), False, (row, rows))

    def test_another_opening_of_the_callee(self):
        one = (1, (0, 1), 0, False)
        rows = (
            (one, ZERO_AND_ONE, (1, 1, (1, 1), 0, False), (("outcome",),)),
            (one, ZERO_AND_ONE, (1, 0, (0, 1), 0, False), (("go", None, 0),)),
            *self.ROWS,
        )
        # Row 1 is right for itself, but the call of the main procedure has another opening.
        moved = tuple(self.moved(row, 2) for row in self.ROWS)
        self.assertIs(self.holds(rows[:2] + moved), True)
        wrong = moved[:3] + (moved[3][:3] + ((("call", 1, (4, 4)),),),)
        self.assertIs(self.holds(rows[:2] + wrong), False)

    def moved(self, row, by):
        """The row with all row numbers larger by a number."""
        reasons = []
        for reason in row[3]:
            if reason[0] == "go":
                reason = ("go", reason[1], reason[2] + by)
            if reason[0] == "call":
                reason = ("call", reason[1] + by, tuple(number + by for number in reason[2]))
            reasons.append(reason)
        return row[:3] + (tuple(reasons),)

    def test_outcome(self):
        for forbidden in ((), (((1,), 0, False),), (((0,), 0, True),)):
            rows = self.with_row(0, forbidden=forbidden)
            rows = replaced(rows, 1, (self.CALLEE, forbidden, *rows[1][2:]))
            self.assertIs(self.holds(rows), False)
        self.assertIs(self.holds(self.with_row(0, node=(1, 1, (1, 0), 0, False))), False)
        for reason in (("finish",), ("bad", ("write", 0)), ("go", None, 0)):
            self.assertIs(self.holds(self.with_row(0, reasons=(reason,))), False)
            self.assertIs(self.holds(self.with_row(0, reasons=(reason,)), contract=NO_ZERO.with_flags(0, finish=False)),
                          False)
        # At another node than the end it is no reason, nor at the end of the main procedure.
        self.assertIs(self.holds(self.with_row(1, reasons=(("outcome",),))), False)
        end = (self.MAIN, (), (0, 2, (0,), 0, False), (("outcome",),))
        self.assertIs(self.holds((end, *[self.moved(row, 1) for row in self.ROWS])), False)

    def test_one_row_for_each_forbidden_outcome(self):
        both = ZERO_AND_ONE
        rows = tuple((opening, both, node, reasons) for opening, forbidden, node, reasons in self.ROWS[:2])
        one = (self.MAIN, (), (0, 1, (1,), 0, False), (("bad", ("write", 1)),))
        strict = NO_ZERO.with_row(0, ("write", 1), None)

        def holds(numbers):
            last = self.ROWS[3][:3] + ((("call", 1, numbers),),)
            return self.holds(rows + (self.ROWS[2], one, last), contract=strict)

        self.assertIs(holds((2, 3)), True)
        for numbers in ((3, 2), (2,), (3,), (2, 2), (), (2, 3, 3)):
            self.assertIs(holds(numbers), False, numbers)

    def test_tuples_of_outcomes_are_compared_as_they_are(self):
        turned = ZERO_AND_ONE[::-1]
        strict = NO_ZERO.with_row(0, ("write", 1), None)
        one = (self.MAIN, (), (0, 1, (1,), 0, False), (("bad", ("write", 1)),))
        rows = tuple((opening, turned, node, reasons) for opening, forbidden, node, reasons in self.ROWS[:2])
        last = self.ROWS[3][:3] + ((("call", 1, (3, 2)),),)
        self.assertIs(self.holds(rows + (self.ROWS[2], one, last), contract=strict), True)
        mixed = (rows[0], (self.CALLEE, ZERO_AND_ONE, *rows[1][2:]))
        self.assertIs(self.holds(mixed + (self.ROWS[2], one, self.ROWS[3][:3] + ((("call", 1, (2, 3)),),)),
                                 contract=strict), False)

    def test_a_callee_in_which_the_play_is_lost(self):
        text = "letters 1 answers 2 proc main() call p() end proc p() write 0 end"
        main, callee = (0, (), 0, False), (1, (), 0, False)
        rows = (
            (callee, (), (1, 0, (), 0, False), (("bad", ("write", 0)),)), (main, (), (0, 0, (), 0, False), (("call", 0, ()),)),
        )
        program = parse_program(text)
        self.assertIs(spoiling_holds(program, NO_ZERO, (), rows), True)
        # It is lost, too, where an outcome is forbidden that never comes; then a row must tell of it.
        told = (callee, (((), 0, False),), *rows[0][2:])
        self.assertIs(spoiling_holds(program, NO_ZERO, (), (told, rows[1])), False)
        self.assertIs(spoiling_holds(program, NO_ZERO, (), (rows[0], rows[1][:3] + ((("call", 0, (0,)),),))), False)
        self.assertIs(spoiling_holds(program, open_contract(), (), rows), False)

    def test_reasons_of_other_kinds_at_a_call(self):
        for reason in (("go", None, 2), ("go", None, 1), ("finish",), ("outcome",), ("bad", ("write", 0))):
            self.assertIs(self.holds(self.with_row(3, reasons=(reason,))), False)
        # And calls at nodes that are no calls.
        self.assertIs(self.holds(self.with_row(2, reasons=(("call", 1, ()),))), False)
        self.assertIs(self.holds(self.with_row(1, reasons=(("call", 0, ()),))), False)

    def test_a_node_of_another_procedure(self):
        stray = (self.CALLEE, self.ZERO, (0, 1, (0,), 0, False), (("bad", ("write", 0)),))
        rows = (stray, *[self.moved(row, 1) for row in self.ROWS])
        self.assertIs(self.holds(rows), False)
        self.assertIs(self.holds(rows[1:]), False)
        self.assertIs(self.holds((self.ROWS[0], *[self.moved(row, 1) for row in self.ROWS])), True)

    def test_rows_behind_the_call_have_the_same_opening(self):
        other = (0, (1,), 0, False)
        self.assertIs(self.holds(self.with_row(2, opening=other)), False)
        self.assertIs(self.holds(self.with_row(2, forbidden=self.ZERO)), False)


ZERO_AND_ONE = (((0,), 0, False), ((1,), 0, False))


class ChoiceTest(unittest.TestCase):
    def test_reasons_in_ascending_order_of_the_values(self):
        text = (
            "letters 1 answers 3 proc main() call p(0, 0) end proc p(a 2, b 3) "
            "if a then write b else write 0 end end"
        )
        contract = Contract(1, 3, [([0], 0, [None] * 3, True, True)])
        program = parse_program(text)
        main = (0, (), 0, False)
        rows = []
        for a in range(2):
            for b in range(3):
                opening = (1, (a, b), 0, False)
                point, letter = (1, b) if a else (2, 0)
                rows.append((opening, (), (1, point, (a, b), 0, False), (("bad", ("write", letter)),)))
                rows.append((opening, (), (1, 0, (a, b), 0, False), (("go", None, len(rows) - 1),)))

        def holds(numbers, places=(0, 1)):
            last = (main, (), (0, 0, (), 0, False), tuple(("call", number, ()) for number in numbers))
            return spoiling_holds(program, contract, places, (*rows, last))

        self.assertIs(holds((1, 3, 5, 7, 9, 11)), True)
        self.assertIs(holds((1, 3, 5, 7, 9, 11), (1, 0)), True)
        for numbers in ((1, 7, 3, 9, 5, 11), (1, 3, 5, 7, 9), (1, 3, 5, 7, 11, 9), (1,) * 6, (1, 3, 5, 7, 9, 10)):
            self.assertIs(holds(numbers), False, numbers)
        self.assertIs(holds((1, 7), (0,)), True)
        self.assertIs(holds((1, 3, 5), (1,)), True)
        self.assertIs(holds((1,), ()), True)
        self.assertIs(holds((7, 1), (0,)), False)

    def test_reads(self):
        program = parse_program("letters 2 answers 2 global g 3 proc main() read g read g end")
        states = [([0, 0], 1, [0, 0], True, True), ([None, None], None, [None] * 2, True, True)]
        main = (0, (0,), 0, False)
        # The second letter is wrong behind the first one, if that was 1.
        contract = Contract(2, 2, [([0, 2], 1, [0, 0], True, True), states[1], ([None, 0], None, [0, 0], True, True)])
        for event, holds in ((("read", 0), True), (("over",), True), (("read", 1), False), (("write", 0), False)):
            rows = (
                (main, (), (0, 1, (1,), 2, False), (("bad", event),)),
                (main, (), (0, 0, (0,), 0, False), (("go", ("read", 1), 0),)),
            )
            self.assertIs(spoiling_holds(program, contract, (), rows), holds, event)
        # Behind the end a read makes no event.
        for reason in (("bad", ("over",)), ("bad", ("read", 0)), ("bad", ("read", 1))):
            rows = (
                (main, (), (0, 1, (2,), 1, True), (reason,)), (main, (), (0, 0, (0,), 0, False), (("go", ("over",), 0),)),
            )
            self.assertIs(spoiling_holds(program, contract, (), rows), False)
        strict = contract.with_flags(1, finish=False)
        rows = (
            (main, (), (0, 2, (2,), 1, True), (("finish",),)), (main, (), (0, 1, (2,), 1, True), (("go", None, 0),)),
            (main, (), (0, 0, (0,), 0, False), (("go", ("over",), 1),)),
        )
        self.assertIs(spoiling_holds(program, strict, (), rows), True)
        self.assertIs(spoiling_holds(program, contract, (), rows), False)
        other = (rows[0], (main, (), (0, 1, (2,), 1, True), (("go", ("over",), 0),)), rows[2])
        self.assertIs(spoiling_holds(program, strict, (), other), False)


class RefusalTest(unittest.TestCase):
    def test_refusals_in_order(self):
        text = "letters 1 answers 2 global g 4 global h 4 proc main() write 0 end proc p() " + "skip " * 10 + "end"
        program = parse_program(text)
        with self.assertRaises(Mismatch):
            spoiling_holds(program, open_contract(2, 2), [9, 9], ())
        for places, place in (([0, 0], 0), ([9, 9], 9), ([-1], -1), ([0, 1], 1)):
            with self.assertRaises(InvalidPlaces) as caught:
                spoiling_holds(program, open_contract(), places, ())
            self.assertEqual(caught.exception.place, place)
        with self.assertRaises(TooLarge) as caught:
            spoiling_holds(program, open_contract(), [0], ())
        self.assertEqual(caught.exception.what, "weight")
        light = text.replace("skip ", "")
        with self.assertRaises(TooLarge) as caught:
            spoiling_holds(parse_program(light), open_contract(), [0], ())
        self.assertEqual(caught.exception.what, "outcomes")
        self.assertIs(spoiling_holds(parse_program(light.replace("h 4", "h 3")), open_contract(), [0], ()), False)


if __name__ == "__main__":
    unittest.main()
