"""All least sets of edits of a field (points 60 to 63)."""

from allmends.branching import DraftBranches, picked
from allmends.edits import Draft
from allmends.growth import grown
from allmends.mending import least_of
from allmends.refusals import refuse_field
from allmends.trees import rows_hold


class EditLists:
    """All least candidates of a field, and the whole tree of its drafts."""

    def __init__(self, program, field, width, growth):
        self.field = field
        self.width = width
        self.tree = growth.all_rows()
        self.cases = growth.cases
        self.uses = growth.all_uses()
        self.kept = tuple(growth.kept)
        self.picks = least_of([picked(draft) for draft in growth.kept])
        self.least = tuple([Draft(field, picks).edits(program) for picks in self.picks])


def least_edits(program, contract, field, *, width=2, limit=64):
    """All least sets of at most `width` edits of the field with which the program keeps the contract."""
    refuse_field(program, contract, field)
    growth = grown(program, contract, DraftBranches(program, field, width), limit, False)
    return EditLists(program, tuple(sorted(field)), width, growth)


def draft_tree_holds(program, contract, field, width, tree):
    """True if the tree is one of drafts of this field and this width, and all of its leaves are right."""
    refuse_field(program, contract, field)
    return rows_hold(program, contract, DraftBranches(program, field, width), tree)
