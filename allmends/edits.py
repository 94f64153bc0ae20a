"""Edits of places, and drafts that pick some of them (points 56 to 59)."""

from allmends.errors import InvalidChange, InvalidEdit, InvalidPlaces
from allmends.forms import frozen, is_deeper
from allmends.rewriting import rewritten

GROUPS = (("+", "-", "*"), ("==", "<"), ("and", "or"))
# One more than this is the depth of an expression with a new "not" before it.
DEEPEST_TO_NEGATE = 4


def edits_at(program, place):
    """The edits of a place."""
    if not 0 <= place < len(program.places):
        raise InvalidPlaces(place)
    procedure, role, size, expression = program.places[place]
    news = simple_expressions(program, procedure, size) + operations_like(expression)
    if role == "test":
        news = news + negations(expression)
    edits = []
    for new in news:
        if new != expression and ("put", new) not in edits:
            edits.append(("put", new))
    if role == "write":
        edits.append(("drop",))
    return tuple(edits)


def simple_expressions(program, procedure, size):
    """The numbers below the size and the variables in sight of this size."""
    numbers = [("number", number) for number in range(size)]
    sizes = program.sizes(procedure)
    return numbers + [("name", name) for name, many in zip(program.names(procedure), sizes) if many == size]


def operations_like(expression):
    """A binary operation with each operator of its operator's group, its own one too."""
    return [
        (operator, expression[1], expression[2])
        for group in GROUPS if expression[0] in group
        for operator in group
    ]


def negations(expression):
    """A test turned into its opposite."""
    if expression[0] == "not":
        return [expression[1]]
    return [] if is_deeper(expression, DEEPEST_TO_NEGATE) else [("not", expression)]


def apply_edits(program, edits):
    """The program with these edits."""
    news = {}
    for place, edit in edits:
        exists = 0 <= place < len(program.places)
        if not exists or place in news or frozen(edit) not in edits_at(program, place):
            raise InvalidEdit(place)
        news[place] = new_expression(edit)
    return rewritten(program, news)


def new_expression(edit):
    """The expression that an edit puts, or None if it drops a write."""
    return None if edit[0] == "drop" else edit[1]


class Draft:
    """A field of places, and for some of them the number of the edit that is picked, or 0 for none."""

    def __init__(self, field, picks=()):
        self.field = tuple(sorted(field))
        self.picks = tuple(sorted([(place, number) for place, number in picks]))
        self._numbers = {place: number for place, number in self.picks}
        if len(set(self.field)) < len(self.field):
            raise InvalidChange("a place stands twice")
        if any([place not in self.field for place, number in self.picks]):
            raise InvalidChange("the place of a pick is not in the field")
        if len(self._numbers) < len(self.picks):
            raise InvalidChange("a place has two picks")

    def pick(self, place):
        """The number that is picked for a place, or None."""
        return self._numbers.get(place)

    def with_pick(self, place, number):
        """A new draft with this pick, set or set anew."""
        others = [pair for pair in self.picks if pair[0] != place]
        return Draft(self.field, others + [(place, number)])

    def fits(self, program):
        """True if the program has the places, and the places the edits, of this draft."""
        if not all([0 <= place < len(program.places) for place in self.field]):
            return False
        return all([0 <= number <= len(edits_at(program, place)) for place, number in self.picks])

    def edits(self, program):
        """The pairs (place, edit) of the picks that are not 0."""
        return tuple([(place, edits_at(program, place)[number - 1]) for place, number in self.picks if number > 0])
