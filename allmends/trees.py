"""The checker of trees of cases and of drafts (points 46 and 63)."""

from allmends.branching import CaseBranches
from allmends.forms import frozen
from allmends.papers import paper_holds
from allmends.refusals import refuse_question
from allmends.runs import MOST_STEPS, run_within
from allmends.steps import Machine
from allmends.surveys import LONGEST_STREAM


def tree_holds(program, contract, places, tree):
    """True if the tree is one of cases of these places, and all of its leaves are right."""
    refuse_question(program, contract, places)
    return rows_hold(program, contract, CaseBranches(program, places), tree)


def rows_hold(program, contract, branches, tree):
    """True if the tree branches in this way, and all of its leaves are right."""
    rows = frozen(tree)
    return has_one_root(rows) and cases_hold(Machine(program, contract, branches.first), branches, rows)


def has_keeps_row(tree):
    """True if a tree has a keeps row: then it does not show that nothing keeps."""
    return any([row[0] == "keeps" for row in tree])


def has_one_root(rows):
    """True if each row but row 0 is the child of one row, and that row stands before it."""
    above = {}
    for number, row in enumerate(rows):
        for child in children_in(row):
            if not number < child < len(rows) or child in above:
                return False
            above[child] = number
    # No row has itself or a row before it as a child, so that row 0 is the only one that may be left.
    return len(above) == len(rows) - 1


def children_in(row):
    """The children of a row."""
    return row[3] if row[0] == "ask" else ()


def cases_hold(machine, branches, rows):
    """True if the rows are right for their cases, where row 0 has the first one."""
    cases = {0: branches.first}
    for number, row in enumerate(rows):
        case = cases[number]
        if row[0] == "ask":
            below = children_of(branches, case, row)
            if not below or len(below) != len(row[3]):
                return False
            cases.update({child: inner for child, inner in zip(row[3], below)})
        elif not is_right_leaf(machine, row, case):
            return False
    return True


def children_of(branches, case, row):
    """The cases below an ask row in their order; none if its case may not ask what it asks."""
    word, place, sight, children = row
    return branches.children(case, place, sight) if branches.may_ask(case, place, sight) else []


def is_right_leaf(machine, row, case):
    """True if a breaks or a keeps row is right for a case."""
    machine.turn_to(case)
    if row[0] == "keeps":
        return paper_holds(machine, row[1])
    return is_right_break(machine, row)


def is_right_break(machine, row):
    """True if the run on the stream of a row breaks as the row tells."""
    word, stream, verdict = row
    if len(stream) > LONGEST_STREAM or not all([0 <= letter < machine.program.letters for letter in stream]):
        return False
    found = run_within(machine, stream, MOST_STEPS)
    return found is not None and found.breaks and found.verdict == verdict
