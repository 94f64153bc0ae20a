"""Points 65 and 68: what a plan must have that holds, and what `plan_holds` refuses."""

import copy
import unittest

from allmends.contracts import Contract
from allmends.errors import InvalidPlaces, Mismatch, TooLarge
from allmends.notation import parse_program
from allmends.plans import plan_holds
from tests.samples import as_lists, open_contract, open_state, sample_contract, sample_program

NO_ZERO = open_contract(1, 2).with_row(0, ("write", 0), None)


def replaced(items, at, item):
    """The tuple with another item, or with none if it is None."""
    return items[:at] + (() if item is None else (item,)) + items[at + 1:]


class ReadingTest(unittest.TestCase):
    """The plan of the document's example, where place 1 (the write) is chosen."""

    OPENING = (0, (0,), 0, False)
    MOVES = (
        ((0, 0, (0,), 0, False), (), ()),
        ((0, 1, (0,), 1, False), (), ()), ((0, 2, (0,), 1, False), (0,), ()), ((0, 3, (0,), 4, False), (), ()),
        ((0, 1, (1,), 2, False), (), ()), ((0, 2, (0,), 2, False), (1,), ()),
        ((0, 1, (2,), 3, True), (), ()), ((0, 2, (0,), 3, True), (0,), ()), ((0, 3, (0,), 4, True), (), ()),
    )

    def holds(self, moves, places=(1,), opening=OPENING, allowed=(), contract=None, more=()):
        plan = ((opening, allowed, moves), *more)
        return plan_holds(sample_program(), contract or sample_contract(), places, plan)

    def test_the_plan(self):
        self.assertIs(self.holds(self.MOVES), True)
        self.assertIs(self.holds(self.MOVES[::-1]), True)
        other = replaced(self.MOVES, 7, ((0, 2, (0,), 3, True), (1,), ()))
        self.assertIs(self.holds(other), True)

    def test_each_move_is_needed(self):
        for at in range(len(self.MOVES)):
            self.assertIs(self.holds(replaced(self.MOVES, at, None)), False, at)
        self.assertIs(self.holds(()), False)

    def test_a_move_twice(self):
        for at in range(len(self.MOVES)):
            self.assertIs(self.holds(self.MOVES + self.MOVES[at:at + 1]), False, at)
        # Also with other values that are as right.
        self.assertIs(self.holds(self.MOVES + (((0, 2, (0,), 3, True), (1,), ()),)), False)

    def test_moves_that_no_play_needs(self):
        # The node behind it has a move, too.
        more = ((0, 2, (2,), 1, False), (0,), ())
        self.assertIs(self.holds(self.MOVES + (more,)), False)
        self.assertIs(self.holds(self.MOVES + (more, ((0, 3, (2,), 4, False), (), ()))), True)

    def test_no_rows(self):
        self.assertIs(plan_holds(sample_program(), sample_contract(), (1,), ()), False)
        self.assertIs(plan_holds(sample_program(), sample_contract(), (1,), []), False)

    def test_values_that_lose(self):
        self.assertIs(self.holds(replaced(self.MOVES, 2, ((0, 2, (0,), 1, False), (1,), ()))), False)
        self.assertIs(self.holds(replaced(self.MOVES, 5, ((0, 2, (0,), 2, False), (0,), ()))), False)

    def test_values_out_of_range(self):
        for value in (-1, 2, 3, 99):
            self.assertIs(self.holds(replaced(self.MOVES, 7, ((0, 2, (0,), 3, True), (value,), ()))), False, value)

    def test_too_many_or_too_few_values(self):
        for values in ((), (0, 0), (0, 1)):
            self.assertIs(self.holds(replaced(self.MOVES, 7, ((0, 2, (0,), 3, True), values, ()))), False)
        for at in (0, 1, 3):
            node = self.MOVES[at][0]
            self.assertIs(self.holds(replaced(self.MOVES, at, (node, (0,), ()))), False)

    def test_other_places(self):
        # Without a place the elder value is written; with place 0 its value is chosen, too.
        self.assertIs(self.holds(self.MOVES, ()), False)
        self.assertIs(self.holds(self.MOVES, (0,)), False)
        self.assertIs(self.holds(self.MOVES, (0, 1)), False)
        both = tuple((node, (0,) if node[1] == 1 else values, none) for node, values, none in self.MOVES)
        self.assertIs(self.holds(both, (0, 1)), True)
        self.assertIs(self.holds(both, (1, 0)), True)
        self.assertIs(self.holds(both, (1,)), False)

    def test_a_chosen_value_that_leads_elsewhere(self):
        both = tuple((node, (0,) if node[1] == 1 else values, none) for node, values, none in self.MOVES)
        elsewhere = replaced(both, 6, ((0, 1, (2,), 3, True), (2,), ()))
        self.assertIs(self.holds(elsewhere, (0, 1)), False)
        node = ((0, 2, (2,), 3, True), (1,), ())
        self.assertIs(self.holds(elsewhere + (node,), (0, 1)), False)
        self.assertIs(self.holds(elsewhere + (node, ((0, 3, (2,), 4, True), (), ())), (0, 1)), True)

    def test_outcomes_at_a_node_that_is_no_call(self):
        for outcomes in ((((), 0, False),), (((), 4, True), ((), 4, False))):
            for at, (node, values, none) in enumerate(self.MOVES):
                self.assertIs(self.holds(replaced(self.MOVES, at, (node, values, outcomes))), False)

    def test_a_row_for_the_main_call_that_allows_something(self):
        for allowed in ((((), 0, False),), (((), 4, True),)):
            self.assertIs(self.holds(self.MOVES, allowed=allowed), False)
            # It may stand beside one that allows nothing.
            self.assertIs(self.holds(self.MOVES, more=((self.OPENING, allowed, self.MOVES),)), True)

    def test_a_row_twice(self):
        self.assertIs(self.holds(self.MOVES, more=((self.OPENING, (), self.MOVES),)), False)
        self.assertIs(self.holds(self.MOVES, more=((self.OPENING, (), self.MOVES[::-1]),)), False)

    def test_another_opening(self):
        for opening in ((0, (1,), 0, False), (0, (0,), 1, False), (0, (0,), 0, True)):
            self.assertIs(self.holds(self.MOVES, opening=opening), False)

    def test_rows_that_no_play_needs_must_be_right_too(self):
        late = (0, (0,), 3, True)
        node = (0, 0, (0,), 3, True)
        right = ((node, (), ()),) + self.MOVES[6:]
        self.assertIs(self.holds(self.MOVES, more=((late, (), right),)), True)
        self.assertIs(self.holds(self.MOVES, more=((late, (), right[1:]),)), False)
        self.assertIs(self.holds(self.MOVES, more=((late, (), right[:-1]),)), False)

    def test_a_main_procedure_that_may_not_finish(self):
        self.assertIs(self.holds(self.MOVES, contract=sample_contract().with_flags(4, finish=False)), False)
        self.assertIs(self.holds(self.MOVES, contract=sample_contract().with_flags(4, silence=True)), True)

    def test_an_event_that_is_wrong(self):
        for event in (("over",), ("read", 0), ("read", 1)):
            self.assertIs(self.holds(self.MOVES, contract=sample_contract().with_row(0, event, None)), False)
        # An event that is right leads to a node that needs a move.
        self.assertIs(self.holds(self.MOVES, contract=sample_contract().with_row(0, ("read", 0), 3)), False)

    def test_lists_that_are_changed_behind_the_call(self):
        plan = as_lists(((self.OPENING, (), self.MOVES),))
        before = copy.deepcopy(plan)
        self.assertIs(plan_holds(sample_program(), sample_contract(), [1], plan), True)
        self.assertEqual(plan, before)
        plan[0][2][7][1].append(0)
        self.assertIs(plan_holds(sample_program(), sample_contract(), [1], plan), False)
        plan[0][2][7][1].pop()
        self.assertIs(plan_holds(sample_program(), sample_contract(), [1], plan), True)
        plan[0][2].pop()
        self.assertIs(plan_holds(sample_program(), sample_contract(), [1], plan), False)
        plan.clear()
        self.assertIs(plan_holds(sample_program(), sample_contract(), [1], plan), False)


class CallTest(unittest.TestCase):
    """A plan with a call, whose argument is chosen: the callee sets the global that is written."""

    TEXT = "letters 1 answers 2 global g 2 proc main() call p(0) write g end proc p(a 2) g = a end"
    ONE = (((1,), 0, False),)
    MAIN = ((0, (0,), 0, False), (), (
        ((0, 0, (0,), 0, False), (1,), ONE), ((0, 1, (1,), 0, False), (), ()), ((0, 2, (1,), 0, False), (), ()),
    ))
    CALLEE = ((1, (0, 1), 0, False), ONE, (((1, 0, (0, 1), 0, False), (), ()), ((1, 1, (1, 1), 0, False), (), ())))

    def holds(self, main=MAIN, callee=CALLEE, places=(0,), contract=NO_ZERO):
        return plan_holds(parse_program(self.TEXT), contract, places, (main, callee))

    def test_the_plan(self):
        self.assertIs(self.holds(), True)
        self.assertIs(self.holds(self.CALLEE, self.MAIN), True)

    def test_a_call_without_a_row_for_its_opening_and_its_outcomes(self):
        program = parse_program(self.TEXT)
        self.assertIs(plan_holds(program, NO_ZERO, (0,), (self.MAIN,)), False)
        self.assertIs(plan_holds(program, NO_ZERO, (0,), (self.CALLEE,)), False)
        opening, allowed, moves = self.CALLEE
        for other in ((1, (0, 0), 0, False), (1, (1, 1), 0, False), (1, (0, 1), 0, True)):
            self.assertIs(self.holds(callee=(other, allowed, moves)), False)
        # The row allows more, or less, than the move tells.
        zero = ((0,), 0, False)
        self.assertIs(self.holds(callee=(opening, (zero, *allowed), moves)), False)
        self.assertIs(self.holds(callee=(opening, (), moves)), False)
        self.assertIs(self.holds(main=self.main_with((1,), (zero, *self.ONE))), False)
        self.assertIs(self.holds(main=self.main_with((1,), ())), False)

    def main_with(self, values, outcomes, *more):
        opening, allowed, moves = self.MAIN
        return (opening, allowed, ((moves[0][0], values, outcomes), *moves[1:], *more))

    def test_outcomes_that_cannot_happen(self):
        # Each outcome that is told needs a move behind the call, whether it can happen or not.
        late = ((1,), 0, True)
        opening, allowed, moves = self.CALLEE
        callee = (opening, (*self.ONE, late), moves)
        main = self.main_with((1,), (*self.ONE, late))
        self.assertIs(self.holds(main, callee), False)
        behind = (((0, 1, (1,), 0, True), (), ()), ((0, 2, (1,), 0, True), (), ()))
        self.assertIs(self.holds(self.main_with((1,), (*self.ONE, late), *behind), callee), True)

    def test_tuples_of_outcomes_are_compared_as_they_are(self):
        late = ((1,), 0, True)
        opening, allowed, moves = self.CALLEE
        behind = (((0, 1, (1,), 0, True), (), ()), ((0, 2, (1,), 0, True), (), ()))
        callee = (opening, (late, *self.ONE), moves)
        # That they ascend is not looked at, but both must have them in the same order.
        self.assertIs(self.holds(self.main_with((1,), (late, *self.ONE), *behind), callee), True)
        self.assertIs(self.holds(self.main_with((1,), (*self.ONE, late), *behind), callee), False)
        twice = (opening, (*self.ONE, *self.ONE), moves)
        self.assertIs(self.holds(self.main_with((1,), (*self.ONE, *self.ONE)), twice), True)
        self.assertIs(self.holds(self.MAIN, twice), False)

    def test_an_outcome_that_is_not_allowed(self):
        opening, allowed, moves = self.CALLEE
        for other in ((((0,), 0, False),), (((1,), 0, True),)):
            # The main row is then right for itself.
            node = other[0]
            behind = (((0, 1, node[0], 0, node[2]), (), ()), ((0, 2, node[0], 0, node[2]), (), ()))
            main = self.main_with((1,), other, *behind)
            self.assertIs(self.holds(main, (opening, other, moves), contract=open_contract()), False)
            both = (*other, *self.ONE) if node[0] == (0,) else (*self.ONE, *other)
            main = self.main_with((1,), both, *behind)
            self.assertIs(self.holds(main, (opening, both, moves), contract=open_contract()), True)

    def test_chosen_arguments(self):
        self.assertIs(self.holds(places=()), False)
        self.assertIs(self.holds(main=self.main_with((), self.ONE)), False)
        for value in (0, 2, -1):
            self.assertIs(self.holds(main=self.main_with((value,), self.ONE)), False)
        self.assertIs(self.holds(main=self.main_with((1, 1), self.ONE)), False)

    def test_the_node_behind_the_call_has_a_move(self):
        opening, allowed, moves = self.MAIN
        self.assertIs(self.holds((opening, allowed, replaced(moves, 1, None))), False)
        self.assertIs(self.holds((opening, allowed, replaced(moves, 2, None))), False)

    def test_the_first_node_of_the_callee_belongs_to_its_own_row(self):
        opening, allowed, moves = self.MAIN
        first = self.CALLEE[2][0]
        self.assertIs(self.holds((opening, allowed, moves + (first,))), False)
        opening, allowed, moves = self.CALLEE
        self.assertIs(self.holds(callee=(opening, allowed, replaced(moves, 0, None))), False)
        self.assertIs(self.holds(callee=(opening, allowed, moves + self.MAIN[2][1:])), False)

    def test_a_node_of_another_procedure(self):
        self.assertIs(self.holds(callee=(self.CALLEE[0], self.ONE, self.CALLEE[2] + self.MAIN[2][2:])), False)

    def test_places_of_the_callee(self):
        zero = (1, (0, 0), 0, False)
        main = self.main_with((), self.ONE)
        callee = (zero, self.ONE, (((1, 0, (0, 0), 0, False), (1,), ()), ((1, 1, (1, 0), 0, False), (), ())))
        self.assertIs(self.holds(main, callee, (2,)), True)
        self.assertIs(self.holds(main, callee, (0,)), False)
        self.assertIs(self.holds(main, callee, (0, 2)), False)
        self.assertIs(self.holds(self.main_with((0,), self.ONE), callee, (0, 2)), True)

    def test_locals_of_an_opening_are_not_looked_at(self):
        text = self.TEXT.replace("(a 2)", "(a 2) local x 2")
        program = parse_program(text)
        opening = (1, (0, 1, 0), 0, False)
        moves = (((1, 0, (0, 1, 0), 0, False), (), ()), ((1, 1, (1, 1, 0), 0, False), (), ()))
        self.assertIs(plan_holds(program, NO_ZERO, (0,), (self.MAIN, (opening, self.ONE, moves))), True)
        other = ((1, (0, 1, 1), 0, False), self.ONE, tuple(
            ((procedure, point, sight[:2] + (1,), state, over), values, none)
            for (procedure, point, sight, state, over), values, none in moves
        ))
        self.assertIs(plan_holds(program, NO_ZERO, (0,), (self.MAIN, (opening, self.ONE, moves), other)), True)
        self.assertIs(plan_holds(program, NO_ZERO, (0,), (self.MAIN, other)), False)


class RecursionTest(unittest.TestCase):
    TEXT = "letters 1 answers 2 proc main() call p() write 0 end proc p() call p() end"
    MAIN = ((0, (), 0, False), (), (((0, 0, (), 0, False), (), ()),))
    CALLEE = ((1, (), 0, False), (), (((1, 0, (), 0, False), (), ()),))

    def test_a_call_that_never_ends(self):
        program = parse_program(self.TEXT)
        self.assertIs(plan_holds(program, NO_ZERO, (), (self.MAIN, self.CALLEE)), True)
        # Silence is not counted.
        self.assertIs(plan_holds(program, NO_ZERO.with_flags(0, silence=False, finish=False), (),
                                 (self.MAIN, self.CALLEE)), True)
        ends = ((1, (), 0, False), (), (((1, 0, (), 0, False), (), ((((), 0, False)),)),))
        self.assertIs(plan_holds(program, NO_ZERO, (), (self.MAIN, ends)), False)

    def test_a_loop_that_never_ends(self):
        program = parse_program("letters 1 answers 2 proc main() while 0 do skip end write 0 end")
        moves = (((0, 0, (), 0, False), (1,), ()), ((0, 1, (), 0, False), (), ()))
        self.assertIs(plan_holds(program, NO_ZERO, (0,), (((0, (), 0, False), (), moves),)), True)
        self.assertIs(plan_holds(program, NO_ZERO, (0,), (((0, (), 0, False), (), moves[:1]),)), False)
        left = (((0, 0, (), 0, False), (0,), ()), ((0, 2, (), 0, False), (), ()), ((0, 3, (), 0, False), (), ()))
        self.assertIs(plan_holds(program, NO_ZERO, (0,), (((0, (), 0, False), (), left),)), False)
        self.assertIs(plan_holds(program, open_contract(), (0,), (((0, (), 0, False), (), left),)), True)

    def test_a_read_behind_the_end(self):
        program = parse_program("letters 1 answers 2 global g 2 proc main() read g read g end")
        # Behind the end there is one node only, and no event, whatever the contract says.
        contract = Contract(1, 2, [([0], 1, [0, 0], True, True), ([None], None, [None] * 2, True, True)])
        moves = (
            ((0, 0, (0,), 0, False), (), ()), ((0, 1, (0,), 0, False), (), ()), ((0, 2, (0,), 0, False), (), ()),
            ((0, 1, (1,), 1, True), (), ()), ((0, 2, (1,), 1, True), (), ()),
        )
        self.assertIs(plan_holds(program, contract, (), (((0, (0,), 0, False), (), moves),)), True)
        for at in range(5):
            self.assertIs(
                plan_holds(program, contract, (), (((0, (0,), 0, False), (), replaced(moves, at, None)),)), False
            )

    def test_values_in_the_order_of_the_places(self):
        text = "letters 1 answers 2 proc main() call p(1, 0, 1) end proc p(a 2, b 3, c 2) if b == 2 then write c end end"
        program = parse_program(text)

        def holds(places, values, sight):
            called = (1, sight, 0, False)
            moves = [((1, 0, sight, 0, False), (), ()), ((1, 2, sight, 0, False), (), ())]
            if sight[1] == 2:
                moves.insert(1, ((1, 1, sight, 0, False), (), ()))
            main = (((0, 0, (), 0, False), values, (((), 0, False),)), ((0, 1, (), 0, False), (), ()))
            return plan_holds(program, NO_ZERO, places, (((0, (), 0, False), (), main), (called, (((), 0, False),), moves)))

        self.assertIs(holds((1,), (2,), (1, 2, 1)), True)
        self.assertIs(holds((1,), (3,), (1, 2, 1)), False)
        self.assertIs(holds((1, 2), (2, 1), (1, 2, 1)), True)
        self.assertIs(holds((2, 1), (2, 1), (1, 2, 1)), True)
        self.assertIs(holds((2, 1), (1, 2), (1, 2, 1)), False)
        self.assertIs(holds((2, 1), (2, 0), (1, 2, 0)), False)
        self.assertIs(holds((0, 2, 1), (0, 1, 0), (0, 1, 0)), True)
        self.assertIs(holds((0, 2, 1), (0, 2, 1), (0, 2, 1)), True)
        self.assertIs(holds((0, 2), (0, 0), (0, 0, 0)), True)


class RefusalTest(unittest.TestCase):
    def test_refusals_in_order(self):
        # Too heavy, and with too many outcomes.
        text = "letters 1 answers 2 global g 4 global h 4 proc main() write 0 end proc p() " + "skip " * 10 + "end"
        program = parse_program(text)
        with self.assertRaises(Mismatch):
            plan_holds(program, open_contract(2, 2), [9, 9], ())
        for places, place in (([0, 0], 0), ([9, 9], 9), ([-1], -1), ([0, 1], 1)):
            with self.assertRaises(InvalidPlaces) as caught:
                plan_holds(program, open_contract(), places, ())
            self.assertEqual(caught.exception.place, place)
        with self.assertRaises(TooLarge) as caught:
            plan_holds(program, open_contract(), [0], ())
        self.assertEqual(caught.exception.what, "weight")
        with self.assertRaises(TooLarge) as caught:
            plan_holds(parse_program(text.replace("skip ", "")), open_contract(), [0], ())
        self.assertEqual(caught.exception.what, "outcomes")
        self.assertIs(plan_holds(parse_program(text.replace("skip ", "").replace("h 4", "h 3")), open_contract(), [0],
                                 ()), False)

    def test_states_count(self):
        text = "letters 1 answers 2 global g 3 proc main() write 0 end proc p() end"
        for states in range(1, 9):
            contract = Contract(1, 2, [open_state()] * states)
            if states <= 4:
                self.assertIs(plan_holds(parse_program(text), contract, [], ()), False)
            else:
                with self.assertRaises(TooLarge) as caught:
                    plan_holds(parse_program(text), contract, [], ())
                self.assertEqual(caught.exception.what, "outcomes")


if __name__ == "__main__":
    unittest.main()
