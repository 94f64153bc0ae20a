"""Whether a set of places is enough (points 42 to 45)."""

from allmends.branching import CaseBranches
from allmends.growth import grown
from allmends.refusals import refuse_question


class Answer:
    """Whether a set of places is enough, and what shows it."""

    def __init__(self, is_enough, places, change, paper, tree, cases, uses):
        self.enough = is_enough
        self.places = places
        self.change = change
        self.paper = paper
        self.tree = tree
        self.cases = cases
        self.uses = uses


def enough(program, contract, places, *, limit=64):
    """Whether some whole change of the places keeps the contract."""
    refuse_question(program, contract, places)
    growth = grown(program, contract, CaseBranches(program, places), limit, True)
    ordered = tuple(sorted(places))
    rows = growth.all_rows()
    if not growth.kept:
        return Answer(False, ordered, None, (), rows, growth.cases, growth.all_uses())
    # The first case that keeps is the last one that was gone to, and its row has its paper.
    return Answer(True, ordered, growth.kept[0], rows[-1][1], (), growth.cases, growth.all_uses())
