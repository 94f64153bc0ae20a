"""The trees of cases and of drafts, gone through in their order (points 42, 43 and 61)."""

from allmends.errors import TooManyCases
from allmends.fates import fate_of
from allmends.steps import Machine
from allmends.unions import Union


class Growth:
    """What was found on the way through a tree.

    `kept` has the cases (or drafts) that keep, `cases` is the number of those that ask.
    """

    def __init__(self, limit):
        self.kept = []
        self.cases = 0
        self._limit = limit
        self._rows = []
        self._children = []
        self._union = Union()

    def go_to(self, case, parent, fate):
        """Adds a case with its fate below the row with the number `parent`, and returns its own number."""
        number = len(self._rows)
        if parent is not None:
            self._children[parent].append(number)
        self._children.append([])
        self._rows.append(row_of(fate))
        self._union.include(fate.uses)
        if fate.word == "keeps":
            self.kept.append(case)
        if fate.word == "asks":
            self.cases += 1
            if self.cases > self._limit:
                raise TooManyCases(self._limit)
        return number

    def all_rows(self):
        """The rows of the tree so far."""
        return tuple([
            row + (tuple(children),) if row[0] == "ask" else row
            for row, children in zip(self._rows, self._children)
        ])

    def all_uses(self):
        """The union of what all cases use, each part in ascending order."""
        return self._union.told()


def row_of(fate):
    """The row of a case with this fate, still without the children of an ask row."""
    if fate.word == "asks":
        return ("ask", *fate.asked[0])
    if fate.word == "breaks":
        return ("breaks", fate.stream, fate.verdict)
    return ("keeps", fate.paper)


def grown(program, contract, branches, limit, stops):
    """The tree that branches in this way; if `stops`, only as far as the first case that keeps."""
    machine = Machine(program, contract, branches.first)
    growth = Growth(limit)
    waiting = [(branches.first, None)]
    while waiting and not (stops and growth.kept):
        case, parent = waiting.pop()
        machine.turn_to(case)
        fate = fate_of(machine)
        number = growth.go_to(case, parent, fate)
        if fate.word == "asks":
            place, sight = fate.asked[0]
            children = branches.children(case, place, sight)
            waiting.extend([(child, number) for child in reversed(children)])
    return growth
