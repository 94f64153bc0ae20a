"""Mends, least mends and the closest ones (points 47 and 48)."""

from allmends.branching import CaseBranches
from allmends.changes import turned
from allmends.forms import product_of
from allmends.growth import grown
from allmends.refusals import refuse_question


class Mends:
    """All least mends of a set of places."""

    def __init__(self, places, growth, count, least):
        self.places = places
        self.tree = growth.all_rows()
        self.cases = growth.cases
        self.uses = growth.all_uses()
        self.kept = tuple(growth.kept)
        self.count = count
        self.least = least
        self.closest = tuple([mend for mend in least if len(mend) == len(least[0])])


def mends(program, contract, places, *, limit=64):
    """All least mends of the places."""
    refuse_question(program, contract, places)
    growth = grown(program, contract, CaseBranches(program, places), limit, False)
    count = sum([whole_changes(program, case) for case in growth.kept])
    found = [turned(program, case) for case in growth.kept]
    return Mends(tuple(sorted(places)), growth, count, least_of(found))


def whole_changes(program, case):
    """The number of whole changes that extend a case."""
    sizes = []
    for place in case.places:
        procedure, role, size, expression = program.places[place]
        unset = [sight for sight in program.sights(procedure) if (place, sight) not in case]
        sizes.extend([size] * len(unset))
    return product_of(sizes)


def least_of(found):
    """Those of some mends (or candidates) that have no other one as a part, the smallest first."""
    distinct = {mend: True for mend in found}
    least = []
    for size, mend in sorted([(len(mend), mend) for mend in distinct]):
        triples = {triple: True for triple in mend}
        if not any([is_part(other, triples) for other in least]):
            least.append(mend)
    return tuple(least)


def is_part(mend, triples):
    """True if all triples of a mend are among these."""
    return all([triple in triples for triple in mend])
