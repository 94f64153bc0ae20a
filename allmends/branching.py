"""How trees branch: which cases, or drafts, lie below the ones that ask (points 42, 46, 61 and 63)."""

from allmends.changes import Change
from allmends.edits import Draft, edits_at


class CaseBranches:
    """The branches of the tree of cases of some places."""

    def __init__(self, program, places):
        self.program = program
        self.first = Change(places)

    def may_ask(self, case, place, sight):
        """True if a row of this case may ask an entry: one of its places that no row above asks."""
        if place not in case.places or (place, sight) in case:
            return False
        procedure, role, size, expression = self.program.places[place]
        return sight in self.program.sights(procedure)

    def children(self, case, place, sight):
        """The cases that set an entry, too, one for each value of its place."""
        return [case.with_entry(place, sight, value) for value in range(self.program.places[place][2])]


class DraftBranches:
    """The branches of the tree of drafts of a field, with so many edits at most."""

    def __init__(self, program, field, width):
        self.first = Draft(field)
        self._width = width
        self._edits = {place: len(edits_at(program, place)) for place in field}

    def may_ask(self, draft, place, sight):
        """True if a row of this draft may ask a place: one of the field that no row above asks."""
        return place in draft.field and draft.pick(place) is None and sight == ()

    def children(self, draft, place, sight):
        """The drafts that pick for a place, too: no edit, or also each edit if there may be one more."""
        many = len(picked(draft))
        last = self._edits[place] if many < self._width else 0
        return [draft.with_pick(place, number) for number in range(last + 1)]


def picked(draft):
    """The picks of a draft that are not 0."""
    return tuple([pair for pair in draft.picks if pair[1] > 0])
