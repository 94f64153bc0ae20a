"""The small checker of papers (points 38 to 40)."""

from allmends.forms import frozen
from allmends.refusals import refuse_change, refuse_mismatch, refuse_weight
from allmends.steps import Machine


def holds(program, contract, change, paper):
    """True if the paper shows that the program with the change keeps the contract."""
    refuse_mismatch(program, contract)
    refuse_change(program, change)
    refuse_weight(program, contract)
    return paper_holds(Machine(program, contract, change), paper)


def paper_holds(machine, paper):
    """True if the paper shows that the program and the change of a machine keep the contract."""
    rows = frozen(paper)
    ledger = {opening: (endings, rank) for opening, endings, rank in rows}
    if len(ledger) < len(rows) or machine.main_opening() not in ledger:
        return False
    return all([row_holds(machine, ledger, opening) for opening in list(ledger)])


def row_holds(machine, ledger, opening):
    """True if the walk of a row comes to nothing that the paper may not have."""
    first = (machine.first_node(opening), True)
    walk = {first: True}
    waiting = [first]
    while waiting:
        pair = waiting.pop()
        if not is_right(machine, ledger, opening, pair):
            return False
        for target, quiet in pairs_behind(machine, ledger, pair):
            if (target, quiet) not in walk:
                walk[(target, quiet)] = True
                waiting.append((target, quiet))
    return not has_quiet_ring(machine, ledger, walk)


def is_right(machine, ledger, opening, pair):
    """True if what the step of a pair does is right in the row with this opening."""
    number, quiet = pair
    step = machine.step(number)
    if step.kind == "asks":
        return False
    if step.kind == "call":
        return is_right_call(machine, ledger, opening, pair)
    if step.kind == "end" and machine.is_main(number):
        return machine.may_finish(number)
    if step.kind == "end":
        return machine.ending_at(number, quiet) in ledger[opening][0]
    return all([target is not None for event, letters, target in step.ways])


def is_right_call(machine, ledger, opening, pair):
    """True if the callee has a row, and one of a smaller rank where the call must not be repeated quietly."""
    number, quiet = pair
    called = machine.opening_at(machine.step(number).callee)
    if called not in ledger:
        return False
    if not quiet or machine.may_be_silent(number):
        return True
    return ledger[called][1] < ledger[opening][1]


def pairs_behind(machine, ledger, pair):
    """The pairs that one step of a right pair can lead to."""
    number, quiet = pair
    step = machine.step(number)
    if step.kind == "call":
        endings = ledger[machine.opening_at(step.callee)][0]
        return [(machine.behind_call(number, ending), quiet and ending[3]) for ending in endings]
    return [(target, quiet and event is None) for event, letters, target in step.ways]


def has_quiet_ring(machine, ledger, walk):
    """True if nodes of a walk, in states that may not be silent, lead to each other quietly in a ring."""
    missing = {number: 0 for number, quiet in walk if not machine.may_be_silent(number)}
    links = {number: quiet_targets(machine, ledger, number, missing) for number in missing}
    for targets in links.values():
        for target in targets:
            missing[target] += 1
    ready = [number for number in links if missing[number] == 0]
    # A node to which no node leads that is left lies in no ring: if all nodes go in this way, there is none.
    gone = 0
    while ready:
        number = ready.pop()
        gone += 1
        for target in links[number]:
            missing[target] -= 1
            if missing[target] == 0:
                ready.append(target)
    return gone < len(links)


def quiet_targets(machine, ledger, number, nodes):
    """Those of the nodes to which a node leads by a quiet step, or by a call with a quiet ending."""
    # What a pair that is quiet so far leads to is quiet exactly if the step is.
    pairs = pairs_behind(machine, ledger, (number, True))
    return [target for target, quiet in pairs if quiet and target in nodes]
