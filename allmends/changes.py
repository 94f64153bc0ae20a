"""Changes: some places with values for some of their entries (points 24 to 27)."""

from allmends.errors import InvalidChange


class Change:
    """A set of places, and values for some entries of these places."""

    def __init__(self, places, entries=()):
        self.places = tuple(sorted(places))
        self.entries = tuple(sorted([(place, tuple(sight), value) for place, sight, value in entries]))
        self._values = {(place, sight): value for place, sight, value in self.entries}
        if len(set(self.places)) < len(self.places):
            raise InvalidChange("a place stands twice")
        if any([place not in self.places for place, sight, value in self.entries]):
            raise InvalidChange("the place of an entry is not a place of the change")
        if len(self._values) < len(self.entries):
            raise InvalidChange("an entry is set twice")

    def __iter__(self):
        return iter(self.entries)

    def __len__(self):
        return len(self.entries)

    def __contains__(self, entry):
        return entry in self._values

    def __eq__(self, other):
        return isinstance(other, Change) and self.places == other.places and self.entries == other.entries

    def value(self, place, sight):
        """The value that is set at an entry, or None."""
        return self._values.get((place, tuple(sight)))

    def with_entry(self, place, sight, value):
        """A new change with this entry set, or set anew."""
        entry = (place, tuple(sight))
        others = [row for row in self.entries if (row[0], row[1]) != entry]
        return Change(self.places, others + [(place, sight, value)])

    def fits(self, program):
        """True if the program has the places, the sights and the values of this change."""
        if not all([0 <= place < len(program.places) for place in self.places]):
            return False
        return all([fits_entry(program, place, sight, value) for place, sight, value in self.entries])


def fits_entry(program, place, sight, value):
    """True if the sight is one of the place's procedure, and the value one of the place; the place exists."""
    procedure, role, size, expression = program.places[place]
    return sight in program.sights(procedure) and 0 <= value < size


def turned(program, change):
    """The triples of the change whose value is not the elder value."""
    return tuple([row for row in change.entries if row[2] != program.value_at(row[0], row[1])])
