"""The tree of cases, gone through in its order (points 42 and 43)."""

from allmends.changes import Change
from allmends.errors import TooManyCases
from allmends.fates import fate_of
from allmends.refusals import refuse_mismatch, refuse_places, refuse_weight
from allmends.steps import Machine


class Growth:
    """What was found on the way through a tree.

    `kept` has the cases that keep, `cases` is the number of those that ask.
    """

    def __init__(self, limit):
        self.kept = []
        self.cases = 0
        self._limit = limit
        self._rows = []
        self._children = []
        self._used = {}

    def go_to(self, case, parent, fate):
        """Adds a case with its fate below the row with the number `parent`, and returns its own number."""
        number = len(self._rows)
        if parent is not None:
            self._children[parent].append(number)
        self._children.append([])
        self._rows.append(row_of(fate))
        for index, part in enumerate(fate.uses):
            self._used.update({(index, item): True for item in part})
        if fate.word == "keeps":
            self.kept.append(case)
        if fate.word == "asks":
            self.cases += 1
            if self.cases > self._limit:
                raise TooManyCases(self._limit)
        return number

    def all_rows(self):
        """The rows of the tree so far."""
        return tuple([
            row + (tuple(children),) if row[0] == "ask" else row
            for row, children in zip(self._rows, self._children)
        ])

    def all_uses(self):
        """The union of what all cases use, each part in ascending order."""
        ordered = sorted(self._used)
        return tuple([tuple([item for at, item in ordered if at == index]) for index in range(3)])


def row_of(fate):
    """The row of a case with this fate, still without the children of an ask row."""
    if fate.word == "asks":
        return ("ask", *fate.asked[0])
    if fate.word == "breaks":
        return ("breaks", fate.stream, fate.verdict)
    return ("keeps", fate.paper)


def grown(program, contract, places, limit, stops):
    """The tree of cases of these places; if `stops`, only as far as the first case that keeps."""
    refuse_mismatch(program, contract)
    refuse_places(program, places)
    refuse_weight(program, contract)
    first = Change(places)
    machine = Machine(program, contract, first)
    growth = Growth(limit)
    waiting = [(first, None)]
    while waiting and not (stops and growth.kept):
        case, parent = waiting.pop()
        machine.turn_to(case)
        fate = fate_of(machine)
        number = growth.go_to(case, parent, fate)
        if fate.word == "asks":
            children = children_of(program, case, fate.asked[0])
            waiting.extend([(child, number) for child in reversed(children)])
    return growth


def children_of(program, case, entry):
    """The cases that set an entry, too, one for each value of its place."""
    place, sight = entry
    return [case.with_entry(place, sight, value) for value in range(program.places[place][2])]
