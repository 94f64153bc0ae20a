"""Points 39 and 40: what a paper that holds must have."""

import copy
import unittest

from allmends.changes import Change
from allmends.contracts import Contract
from allmends.edits import Draft
from allmends.errors import InvalidChange, Mismatch
from allmends.fates import decide
from allmends.notation import parse_program
from allmends.papers import holds
from tests.samples import open_contract, open_state, sample_contract, sample_program

MAIN = ((0, (), 0, False), (), 0)


def as_lists(value):
    return [as_lists(part) for part in value] if isinstance(value, tuple) else value


class HoldsTest(unittest.TestCase):
    """A program with recursion, and its paper, which is then broken in one way after the other."""

    TEXT = (
        "letters 1 answers 2 global g 2 proc main() call p(1) write g end "
        "proc p(a 3) if a == 1 then call p(2) else read g end end"
    )

    def setUp(self):
        self.program = parse_program(self.TEXT)
        self.contract = open_contract(silence=False)
        self.paper = decide(self.program, self.contract).paper

    def holds(self, rows, contract=None, change=None):
        return holds(self.program, contract or self.contract, change, rows)

    def with_row(self, index, opening=None, endings=None, rank=None):
        old = self.paper[index]
        new = (
            old[0] if opening is None else opening, old[1] if endings is None else endings,
            old[2] if rank is None else rank,
        )
        return self.paper[:index] + (new,) + self.paper[index + 1:]

    def test_the_paper_of_decide(self):
        endings = (((0,), 0, False, False), ((1,), 0, True, False))
        self.assertEqual(self.paper, (
            ((0, (0,), 0, False), (), 2), ((1, (0, 1), 0, False), endings, 1), ((1, (0, 2), 0, False), endings, 0),
        ))
        self.assertIs(self.holds(self.paper), True)

    def test_a_row_twice(self):
        for index in range(3):
            self.assertIs(self.holds(self.paper + (self.paper[index],)), False)
        other = (self.paper[2][0], self.paper[2][1], 5)
        self.assertIs(self.holds(self.paper + (other,)), False)

    def test_a_row_left_out(self):
        for index in range(3):
            self.assertIs(self.holds(self.paper[:index] + self.paper[index + 1:]), False)
        self.assertIs(self.holds(()), False)

    def test_an_ending_left_out(self):
        for index in (1, 2):
            for ending in self.paper[index][1]:
                left = tuple(other for other in self.paper[index][1] if other != ending)
                self.assertIs(self.holds(self.with_row(index, endings=left)), False)
            self.assertIs(self.holds(self.with_row(index, endings=())), False)

    def test_a_wrong_ending_in_the_place_of_a_right_one(self):
        for index in (1, 2):
            for wrong in (((0,), 0, False, True), ((1,), 0, False, False), ((0,), 0, True, False)):
                endings = (wrong,) + self.paper[index][1][1:]
                self.assertIs(self.holds(self.with_row(index, endings=endings)), False, (index, wrong))

    def test_ranks(self):
        for ranks, wanted in (
            ((2, 1, 0), True), ((9, 5, 1), True), ((7, 1, 0), True), ((1, 1, 0), False), ((2, 0, 0), False),
            ((2, 1, 1), False), ((0, 1, 2), False), ((2, 2, 0), False), ((3, 2, 2), False),
        ):
            rows = [(row[0], row[1], rank) for row, rank in zip(self.paper, ranks)]
            self.assertIs(self.holds(rows), wanted, ranks)

    def test_ranks_do_not_count_where_the_program_may_be_silent(self):
        rows = [(opening, endings, 0) for opening, endings, rank in self.paper]
        self.assertIs(self.holds(rows, open_contract(silence=True)), True)

    def test_ranks_do_not_count_behind_an_event(self):
        program = parse_program(self.TEXT.replace("main()", "main() write 0"))
        contract = open_contract(silence=False)
        rows = [(row[0], row[1], rank) for row, rank in zip(decide(program, contract).paper, (0, 1, 0))]
        self.assertIs(holds(program, contract, None, rows), True)

    def test_rows_in_another_order(self):
        self.assertIs(self.holds(tuple(reversed(self.paper))), True)
        self.assertIs(self.holds(self.paper[1:] + self.paper[:1]), True)

    def test_endings_in_another_order_or_twice(self):
        endings = self.paper[1][1]
        self.assertIs(self.holds(self.with_row(1, endings=tuple(reversed(endings)))), True)
        self.assertIs(self.holds(self.with_row(1, endings=endings + endings[:1])), True)

    def test_more_endings_than_needed(self):
        more = self.paper[2][1] + (((1,), 0, False, False),)
        # The row that calls must then have this ending, too.
        self.assertIs(self.holds(self.with_row(2, endings=more)), False)
        self.assertIs(self.holds(self.with_row(1, endings=more)), True)
        rows = self.with_row(1, endings=more)
        self.assertIs(self.holds(rows[:2] + ((rows[2][0], more, 0),)), True)

    def test_endings_of_the_main_procedure_are_not_looked_at(self):
        self.assertIs(self.holds(self.with_row(0, endings=(((1,), 0, True, False),))), True)

    def test_openings_that_no_run_needs(self):
        endings = self.paper[1][1]
        self.assertIs(self.holds(self.paper + (((1, (1, 2), 0, False), endings, 0),)), True)
        # A row that no run needs must hold, too.
        self.assertIs(self.holds(self.paper + (((1, (1, 2), 0, False), endings[:1], 0),)), False)
        self.assertIs(self.holds(self.paper + (((1, (1, 1), 0, False), endings, 9),)), False)
        more = (((1, (1, 1), 0, False), endings, 9), ((1, (1, 2), 0, False), endings, 8))
        self.assertIs(self.holds(self.paper + more), True)
        over = ((1, (0, 2), 0, True), (((1,), 0, True, True),), 0)
        self.assertIs(self.holds(self.paper + (over,)), True)
        self.assertIs(self.holds(self.paper + ((over[0], (((1,), 0, True, False),), 0),)), False)

    def test_another_opening_of_the_main_procedure(self):
        for opening in ((0, (1,), 0, False), (0, (0,), 0, True)):
            self.assertIs(self.holds(self.with_row(0, opening=opening)), False)
        self.assertIs(self.holds(self.paper + (((0, (1,), 0, False), (), 5),)), False)
        more = (((0, (1,), 0, False), (), 5), ((1, (1, 1), 0, False), self.paper[1][1], 1),
                ((1, (1, 2), 0, False), self.paper[1][1], 0))
        self.assertIs(self.holds(self.paper + more), True)

    def test_lists_and_tuples_do_the_same(self):
        rows = as_lists(self.paper)
        before = copy.deepcopy(rows)
        self.assertIs(self.holds(rows), True)
        self.assertEqual(rows, before)
        # What is changed behind a call has no effect on it, and counts for the next one.
        rows[1][1].pop()
        self.assertIs(self.holds(rows), False)
        rows[1][1].append(before[1][1][1])
        self.assertIs(self.holds(rows), True)
        rows.append(before[0])
        self.assertIs(self.holds(rows), False)


class ConditionsTest(unittest.TestCase):
    def holds(self, text, paper=(MAIN,), contract=None, change=None):
        program = parse_program(text)
        return holds(program, contract or open_contract(program.letters, program.answers, silence=False), change, paper)

    def test_an_opening_with_locals_that_are_not_zero(self):
        text = "letters 1 answers 2 proc main() call p() end proc p() local x 2 {} end"
        rows = (((0, (), 0, False), (), 1), ((1, (0,), 0, False), (((), 0, False, True),), 0))
        other = ((1, (1,), 0, False), (((), 0, False, True),), 0)
        self.assertIs(self.holds(text.format(""), rows + (other,)), True)
        self.assertIs(self.holds(text.format("write x"), (rows[0], (rows[1][0], (((), 0, False, False),), 0))), True)
        no_one = open_contract(silence=False).with_row(0, ("write", 1), None)
        rows = (rows[0], (rows[1][0], (((), 0, False, False),), 0))
        self.assertIs(self.holds(text.format("write x"), rows, no_one), True)
        other = ((1, (1,), 0, False), (((), 0, False, False),), 0)
        self.assertIs(self.holds(text.format("write x"), rows + (other,), no_one), False)

    def test_unset_entries(self):
        text = "letters 1 answers 2 proc main() if 0 then write 1 end write 0 end"
        self.assertIs(self.holds(text, change=Change([1])), True)
        self.assertIs(self.holds(text, change=Change([2])), False)
        self.assertIs(self.holds(text, change=Change([2], [(2, (), 1)])), True)
        self.assertIs(self.holds(text, change=Draft([2])), False)
        self.assertIs(self.holds(text, change=Draft([1, 2], [(2, 2)])), True)

    def test_unset_arguments(self):
        text = "letters 1 answers 2 proc main() call p(0, 1) end proc p(a 2, b 2) write b end"
        rows = (((0, (), 0, False), (), 1), ((1, (0, 0), 0, False), (((), 0, False, False),), 0))
        self.assertIs(self.holds(text, rows, change=Change([1], [(1, (), 0)])), True)
        self.assertIs(self.holds(text, rows, change=Change([1])), False)
        self.assertIs(self.holds(text, rows), False)

    def test_events_that_are_wrong(self):
        text = "letters 2 answers 2 global g 3 proc main() read g write g end"
        main = (((0, (0,), 0, False), (), 0),)
        free = open_contract(2, 2, silence=False)
        self.assertIs(self.holds(text, main), True)
        for event in (("read", 0), ("read", 1), ("over",), ("write", 0), ("write", 1)):
            self.assertIs(self.holds(text, main, free.with_row(0, event, None)), False, event)
        only = "letters 2 answers 2 global g 3 proc main() read g write 1 end"
        self.assertIs(self.holds(only, main, free.with_row(0, ("write", 0), None)), True)

    def test_the_end_of_the_main_procedure(self):
        contract = Contract(1, 2, [([1], 1, [1, 1], False, False), ([1], 1, [1, 1], True, False)])
        self.assertIs(self.holds("letters 1 answers 2 proc main() end", contract=contract), False)
        self.assertIs(self.holds("letters 1 answers 2 proc main() write 0 end", contract=contract), True)
        self.assertIs(self.holds("letters 1 answers 2 proc main() while 1 do write 0 end end", contract=contract), True)
        # Another procedure may end where the main procedure may not.
        rows = (((0, (), 0, False), (), 1), ((1, (), 0, False), (((), 0, False, True),), 0))
        text = "letters 1 answers 2 proc main() call p() write 1 end proc p() end"
        self.assertIs(self.holds(text, rows, contract), True)

    def test_a_quiet_ring(self):
        text = "letters 1 answers 2 global g 2 proc main() {} end"
        main = (((0, (0,), 0, False), (), 0),)
        loud = open_contract(silence=False)
        for body, wanted in (
            ("while 1 do end", False), ("while 1 do skip end", False), ("while 1 do g = 1 - g end", False),
            ("while g == 0 do g = 1 end", True), ("while 1 do write 0 end", True), ("while 1 do read g end", False),
            ("while g == 0 do read g end", True), ("write 1 while 1 do skip end", False),
            ("read g if g then while 1 do end end", False), ("if 0 then while 1 do end end", True),
        ):
            self.assertIs(self.holds(text.format(body), main, loud), wanted, body)
            self.assertIs(self.holds(text.format(body), main, open_contract(silence=True)), True, body)

    def test_a_quiet_ring_in_one_of_two_states(self):
        silent_later = Contract(1, 2, [open_state(target=1, silence=False), open_state(target=1, silence=True)])
        loud_later = Contract(1, 2, [open_state(target=1, silence=True), open_state(target=1, silence=False)])
        text = "letters 1 answers 2 proc main() {} while 1 do skip end end"
        self.assertIs(self.holds(text.format("write 1"), contract=silent_later), True)
        self.assertIs(self.holds(text.format(""), contract=silent_later), False)
        self.assertIs(self.holds(text.format("write 1"), contract=loud_later), False)
        self.assertIs(self.holds(text.format(""), contract=loud_later), True)

    def test_a_quiet_ring_through_a_call(self):
        text = "letters 1 answers 2 proc main() while 1 do call p() end end proc p() {} end"
        main = ((0, (), 0, False), (), 1)
        opening = (1, (), 0, False)
        quiet = ((), 0, False, True)
        loud = ((), 0, False, False)
        self.assertIs(self.holds(text.format(""), (main, (opening, (quiet,), 0))), False)
        self.assertIs(self.holds(text.format("write 1"), (main, (opening, (loud,), 0))), True)
        # An ending that no call has makes the ring, too.
        self.assertIs(self.holds(text.format("write 1"), (main, (opening, (loud, quiet), 0))), False)
        self.assertIs(
            self.holds(text.format("write 1"), (main, (opening, (loud, quiet), 0)), open_contract(silence=True)), True
        )

    def test_a_quiet_ring_among_several_quiet_endings(self):
        text = "letters 1 answers 2 global g 2 proc main() while g == 0 do call p() end end proc p() g = 1 write 1 end"
        main = ((0, (0,), 0, False), (), 1)
        right = ((1,), 0, False, False)
        for others, wanted in (
            ((), True), ((((1,), 0, False, True),), True), ((((0,), 0, False, False),), True),
            ((((0,), 0, False, True),), False), ((((1,), 0, False, True), ((0,), 0, False, True)), False),
        ):
            rows = (main, ((1, (0,), 0, False), (right,) + others, 0))
            self.assertIs(self.holds(text, rows), wanted, others)

    def test_a_quiet_ring_over_states(self):
        # An ending that no call has changes the state without an event.
        contract = Contract(1, 2, [open_state(target=1, silence=False), open_state(target=1, silence=False)])
        text = "letters 1 answers 2 proc main() while 1 do call p() end end proc p() write 1 end"
        first, second = (1, (), 0, False), (1, (), 1, False)
        right = ((), 1, False, False)
        back = ((), 0, False, True)
        away = ((), 1, False, True)
        main = ((0, (), 0, False), (), 1)
        self.assertIs(self.holds(text, (main, (first, (right,), 0), (second, (right,), 0)), contract), True)
        self.assertIs(self.holds(text, (main, (first, (right, away), 0), (second, (right,), 0)), contract), True)
        self.assertIs(self.holds(text, (main, (first, (right,), 0), (second, (right, back), 0)), contract), True)
        rows = (main, (first, (right, away), 0), (second, (right, back), 0))
        self.assertIs(self.holds(text, rows, contract), False)
        # One of the states of the ring may be silent.
        self.assertIs(self.holds(text, rows, contract.with_flags(1, silence=True)), True)

    def test_a_ring_of_a_walk_that_an_event_came_before(self):
        text = "letters 1 answers 2 proc main() call p() end proc p() write 1 call p() end"
        rows = (((0, (), 0, False), (), 1), ((1, (), 0, False), (), 0))
        self.assertIs(self.holds(text, rows), True)
        self.assertIs(self.holds(text, (rows[0], (rows[1][0], (((), 0, False, False),), 0))), True)

    def test_a_quiet_call_of_the_same_opening(self):
        text = "letters 1 answers 2 proc main() write 0 call p() end proc p() {} call p() end"
        for rank in range(3):
            rows = (((0, (), 0, False), (), 0), ((1, (), 0, False), (), rank))
            self.assertIs(self.holds(text.format(""), rows), False)
            self.assertIs(self.holds(text.format("skip"), rows), False)
            self.assertIs(self.holds(text.format("write 1"), rows), True)
            self.assertIs(self.holds(text.format(""), rows, open_contract(silence=True)), True)

    def test_calls_behind_a_quiet_call(self):
        text = "letters 1 answers 2 proc main() call p() call q() end proc p() {} end proc q() end"
        quiet, loud = ((), 0, False, True), ((), 0, False, False)
        q = ((2, (), 0, False), (quiet,), 3)
        p = (1, (), 0, False)
        main = (0, (), 0, False)
        self.assertIs(self.holds(text.format(""), ((main, (), 4), (p, (quiet,), 0), q)), True)
        self.assertIs(self.holds(text.format(""), ((main, (), 3), (p, (quiet,), 0), q)), False)
        self.assertIs(self.holds(text.format("write 1"), ((main, (), 1), (p, (loud,), 0), q)), True)
        self.assertIs(self.holds(text.format("write 1"), ((main, (), 0), (p, (loud,), 0), q)), False)
        self.assertIs(self.holds(text.format("write 1"), ((main, (), 1), (p, (loud, quiet), 0), q)), False)

    def test_the_callee_behind_the_end_of_the_stream(self):
        text = "letters 1 answers 2 global g 2 proc main() read g call p() end proc p() read g write 1 end"
        loud = open_contract(silence=False)
        right = decide(parse_program(text), loud).paper
        self.assertIs(self.holds(text, right, loud), True)
        self.assertEqual([row[0][3] for row in right], [False, False, True])
        self.assertIs(self.holds(text, right[:2], loud), False)
        # Behind the end the read is no event, whatever the contract says of it.
        strict = Contract(1, 2, [([1], 1, [1, 1], True, False), ([1], None, [1, 1], True, False)])
        self.assertEqual(decide(parse_program(text), strict).stream, (0,))
        only_over = text.replace("proc p() read g", "proc p() if g then read g end")
        paper = decide(parse_program(only_over), strict).paper
        self.assertIs(self.holds(only_over, paper, strict), True)


class RefusalTest(unittest.TestCase):
    def test_refusals_in_order(self):
        with self.assertRaises(Mismatch):
            holds(sample_program(), open_contract(1, 2), Change([9]), ())
        with self.assertRaises(InvalidChange):
            holds(sample_program(), sample_contract(), Change([9]), ())
        with self.assertRaises(InvalidChange):
            holds(sample_program(), sample_contract(), Draft([0], [(0, 4)]), ())
        # TooLarge is tested beside that of decide.

    def test_the_example(self):
        change = Change([0, 1], [(0, (0,), 0), (0, (1,), 1), (0, (2,), 0), (1, (0,), 0), (1, (1,), 1)])
        self.assertIs(holds(sample_program(), sample_contract(), change, [((0, (0,), 0, False), (), 0)]), True)
        for wrong in (change.with_entry(1, (1,), 0), change.with_entry(0, (2,), 2), None, Change([0, 1])):
            self.assertIs(holds(sample_program(), sample_contract(), wrong, [((0, (0,), 0, False), (), 0)]), False)


if __name__ == "__main__":
    unittest.main()
