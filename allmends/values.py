"""The values of places in a run with a change, a draft or neither (points 11, 24 and 59)."""

from allmends.edits import Draft, new_expression
from allmends.programs import reduced, value_of


class Values:
    """What the places of a program are worth with a change, a draft or None."""

    def __init__(self, program, change):
        self._program = program
        self._change = change
        self._is_draft = isinstance(change, Draft)
        self._own = {place: True for place in own_places(change)}
        self._put = put_expressions(program, change)
        self._known = {}

    def owns(self, place):
        """True if the place is one of the change's places or one of the draft's field."""
        return place in self._own

    def drops(self, place):
        """True if the write statement of the place is carried out like a skip."""
        return place in self._put and self._put[place] is None

    def entry_to_ask(self, place, sight):
        """What a step asks that needs an unset entry of this place."""
        return (place, ()) if self._is_draft else (place, sight)

    def value_in(self, place, sight):
        """The value of a place at a sight, or None if it is unset."""
        entry = (place, sight)
        if entry not in self._known:
            self._known[entry] = self._worked_out(place, sight)
        return self._known[entry]

    def _worked_out(self, place, sight):
        if place not in self._own:
            return self._program.value_at(place, sight)
        if not self._is_draft:
            return self._change.value(place, sight)
        if place not in self._put:
            return None
        procedure, role, size, expression = self._program.places[place]
        return reduced(role, size, value_of(self._put[place], self._program.names(procedure), sight))


def own_places(change):
    """The places of a change, the field of a draft, or nothing."""
    if change is None:
        return ()
    return change.field if isinstance(change, Draft) else change.places


def put_expressions(program, change):
    """The expression that a draft puts at each place that it has a pick for; None for a dropped write."""
    if not isinstance(change, Draft):
        return {}
    put = {place: program.places[place][3] for place, number in change.picks}
    for place, edit in change.edits(program):
        put[place] = new_expression(edit)
    return put
