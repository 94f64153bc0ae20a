"""The checker of trees of cases (point 46)."""

from allmends.changes import Change
from allmends.forms import frozen
from allmends.growth import children_of
from allmends.papers import paper_holds
from allmends.refusals import refuse_mismatch, refuse_places, refuse_weight
from allmends.runs import MOST_STEPS, run_within
from allmends.steps import Machine
from allmends.surveys import LONGEST_STREAM


def tree_holds(program, contract, places, tree):
    """True if the tree is one of cases of these places, and all of its leaves are right."""
    refuse_mismatch(program, contract)
    refuse_places(program, places)
    refuse_weight(program, contract)
    rows = frozen(tree)
    first = Change(places)
    machine = Machine(program, contract, first)
    return has_one_root(rows) and cases_hold(machine, rows, first)


def has_one_root(rows):
    """True if each row but row 0 is the child of one row, and that row stands before it."""
    above = {}
    for number, row in enumerate(rows):
        for child in children_in(row):
            if not number < child < len(rows) or child in above:
                return False
            above[child] = number
    # No row has itself or a row before it as a child, so that row 0 is the only one that may be left.
    return len(above) == len(rows) - 1


def children_in(row):
    """The children of a row."""
    return row[3] if row[0] == "ask" else ()


def cases_hold(machine, rows, first):
    """True if the rows are right for their cases, where row 0 has the first one."""
    cases = {0: first}
    for number, row in enumerate(rows):
        case = cases[number]
        if not is_right(machine, row, case):
            return False
        if row[0] == "ask":
            children = children_of(machine.program, case, row[1:3])
            cases.update({child: below for child, below in zip(row[3], children)})
    return True


def is_right(machine, row, case):
    """True if a row is right for a case."""
    if row[0] == "ask":
        return is_right_ask(machine.program, row, case)
    machine.turn_to(case)
    if row[0] == "keeps":
        return paper_holds(machine, row[1])
    return is_right_break(machine, row)


def is_right_ask(program, row, case):
    """True if a row asks an entry that its case may ask, and has a child for each value."""
    word, place, sight, children = row
    if place not in case.places or (place, sight) in case:
        return False
    procedure, role, size, expression = program.places[place]
    return sight in program.sights(procedure) and len(children) == size


def is_right_break(machine, row):
    """True if the run on the stream of a row breaks as the row tells."""
    word, stream, verdict = row
    if len(stream) > LONGEST_STREAM or not all([0 <= letter < machine.program.letters for letter in stream]):
        return False
    found = run_within(machine, stream, MOST_STEPS)
    return found is not None and found.breaks and found.verdict == verdict
