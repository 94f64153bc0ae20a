"""The steps of free play, where a mender chooses the values at some places anew each time (point 64)."""

from allmends.changes import Change
from allmends.programs import sights_of
from allmends.steps import Machine


class FreeSteps:
    """The steps at the nodes of a machine, by the values that are chosen at the places of a set."""

    def __init__(self, program, contract, places):
        self.machine = Machine(program, contract, None)
        self._program = program
        self._free = {place: True for place in places}
        self._choices = {}
        self._steps = {}

    def free_places(self, number):
        """The places of the set that the statement of a node has."""
        return tuple([place for place in self.machine.places_at(number) if place in self._free])

    def choices(self, number):
        """All choices of values at the places of the set that the statement of a node has."""
        places = self.free_places(number)
        if places not in self._choices:
            self._choices[places] = sights_of([self._program.places[place][2] for place in places])
        return self._choices[places]

    def step(self, number, values):
        """The step at a node with these values at its places of the set."""
        if not values:
            return self.machine.step(number)
        if (number, values) not in self._steps:
            places = self.free_places(number)
            sight = self.machine.nodes[number][2]
            entries = [(place, sight, value) for place, value in zip(places, values)]
            self._steps[(number, values)] = self.machine.step_with(number, Change(places, entries))
        return self._steps[(number, values)]

    def outcome_at(self, number):
        """The outcome of a call that ends at a node (point 65)."""
        return self.machine.ending_at(number, False)[:3]
