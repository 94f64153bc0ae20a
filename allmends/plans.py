"""The checkers of plans and of spoilings (points 65 to 67)."""

from allmends.forms import frozen
from allmends.freesteps import FreeSteps
from allmends.refusals import refuse_play


def plan_holds(program, contract, places, plan):
    """True if the plan shows that the places are enough in free play."""
    refuse_play(program, contract, places)
    rows = frozen(plan)
    free = FreeSteps(program, contract, places)
    ledger = {(opening, allowed): moves for opening, allowed, moves in rows}
    if len(ledger) < len(rows) or (free.machine.main_opening(), ()) not in ledger:
        return False
    return all([PlanRow(free, ledger, opening, allowed).holds() for opening, allowed in ledger])


class PlanRow:
    """A row of a plan, which `ledger` has with all others."""

    def __init__(self, free, ledger, opening, allowed):
        self._free = free
        self._ledger = ledger
        self._opening = opening
        self._allowed = allowed
        self._moves = ledger[(opening, allowed)]
        self._moved = {free.machine.number_of(move[0]): True for move in self._moves}

    def holds(self):
        """True if the row is right."""
        if any([move[0][0] != self._opening[0] for move in self._moves]) or len(self._moved) < len(self._moves):
            return False
        if self._free.machine.first_node(self._opening) not in self._moved:
            return False
        return all([self._is_right(move) for move in self._moves])

    def _is_right(self, move):
        node, values, outcomes = move
        number = self._free.machine.number_of(node)
        # Other values have no step at all.
        if values not in self._free.choices(number):
            return False
        step = self._free.step(number, values)
        if step.kind == "call":
            return self._is_right_call(number, step, outcomes)
        if outcomes:
            return False
        if step.kind == "end":
            return self._is_right_end(number)
        return all([target in self._moved for event, letters, target in step.ways])

    def _is_right_call(self, number, step, outcomes):
        machine = self._free.machine
        if (machine.opening_at(step.callee), outcomes) not in self._ledger:
            return False
        return all([machine.behind_call(number, outcome) in self._moved for outcome in outcomes])

    def _is_right_end(self, number):
        if self._free.machine.is_main(number):
            return self._free.machine.may_finish(number)
        return self._free.outcome_at(number) in self._allowed


def spoiling_holds(program, contract, places, spoiling):
    """True if the spoiling shows that the places are not enough in free play."""
    refuse_play(program, contract, places)
    rows = frozen(spoiling)
    free = FreeSteps(program, contract, places)
    main = free.machine.main_opening()
    if not rows or rows[-1][:3] != (main, (), first_of(main)):
        return False
    return all([SpoilingRow(free, rows, number).holds() for number in range(len(rows))])


def first_of(opening):
    """The first node of a call with this opening."""
    procedure, sight, state, over = opening
    return (procedure, 0, sight, state, over)


class SpoilingRow:
    """The row with the number `index` among the rows of a spoiling."""

    def __init__(self, free, rows, index):
        self._free = free
        self._rows = rows
        self._index = index
        self._opening, self._forbidden, self._node, self._reasons = rows[index]
        self._number = free.machine.number_of(self._node)

    def holds(self):
        """True if the row is right."""
        if self._node[0] != self._opening[0]:
            return False
        choices = self._free.choices(self._number)
        if len(self._reasons) != len(choices):
            return False
        return all([
            self._is_right(self._free.step(self._number, values), reason)
            for values, reason in zip(choices, self._reasons)
        ])

    def _is_right(self, step, reason):
        word = reason[0]
        if word == "bad":
            return (reason[1], None) in self._ways(step)
        if word == "go":
            return self._leads_on(reason[2]) and (reason[1], self._rows[reason[2]][2]) in self._ways(step)
        if word == "call":
            return step.kind == "call" and self._is_right_call(step, reason[1], reason[2])
        if step.kind != "end" or (word == "finish") != self._free.machine.is_main(self._number):
            return False
        if word == "finish":
            return not self._free.machine.may_finish(self._number)
        return self._free.outcome_at(self._number) in self._forbidden

    def _ways(self, step):
        """Pairs of each event that the step can make, or None, and the node to which it leads, or None."""
        nodes = self._free.machine.nodes
        return [
            (event, None if target is None else nodes[target]) for event, letters, target in step.ways
        ]

    def _leads_on(self, row):
        """True if a row stands before this one, and belongs to the same opening and forbidden outcomes."""
        return self._is_before(row) and self._rows[row][:2] == (self._opening, self._forbidden)

    def _is_before(self, row):
        return 0 <= row < self._index

    def _is_right_call(self, step, row, rows):
        machine = self._free.machine
        if not self._is_before(row):
            return False
        opening, forbidden, node, reasons = self._rows[row]
        if opening != machine.opening_at(step.callee) or node != first_of(opening):
            return False
        if len(rows) != len(forbidden) or not all([self._leads_on(behind) for behind in rows]):
            return False
        return all([
            self._rows[behind][2] == machine.nodes[machine.behind_call(self._number, outcome)]
            for behind, outcome in zip(rows, forbidden)
        ])
