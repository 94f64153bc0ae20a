"""Programs: their variables, sights, points and places (points 3 to 11)."""

from allmends.errors import InvalidProgram
from allmends.forms import frozen, in_sight
from allmends.layout import lay_out
from allmends.rules import first_reason


class Program:
    """A program that keeps the rules of point 7."""

    def __init__(self, letters, answers, variables, procedures):
        reason = first_reason(letters, answers, variables, procedures)
        if reason:
            raise InvalidProgram(reason)
        self.letters = letters
        self.answers = answers
        self.variables = frozen(variables)
        self.procedures = frozen(procedures)
        scopes = [in_sight(self.variables, procedure) for procedure in self.procedures]
        self._names = tuple([tuple([name for name, size in scope]) for scope in scopes])
        self._sizes = tuple([tuple([size for name, size in scope]) for scope in scopes])
        self._sights = tuple([sights_of(sizes) for sizes in self._sizes])
        self.places, self._points = lay_out(answers, self.variables, self.procedures)

    def names(self, procedure):
        """The names of the variables in sight of the procedure with this number."""
        return self._names[procedure]

    def sizes(self, procedure):
        """The sizes of the variables in sight of the procedure with this number."""
        return self._sizes[procedure]

    def sights(self, procedure):
        """All sights of the procedure with this number, in ascending order."""
        return self._sights[procedure]

    def points(self, procedure):
        """The rows of the points of the procedure with this number."""
        return self._points[procedure]

    def value_at(self, place, sight):
        """The elder value of a place at a sight of its procedure (point 11)."""
        procedure, role, size, expression = self.places[place]
        return reduced(role, size, value_of(expression, self._names[procedure], sight))


def sights_of(sizes):
    """All tuples with one value for each size, in ascending order."""
    sights = [()]
    for size in sizes:
        sights = [sight + (value,) for sight in sights for value in range(size)]
    return tuple(sights)


def reduced(role, size, value):
    """The value of a place with this role and size where its expression has this value (point 11)."""
    if role == "test":
        return truth(value != 0)
    return value % size


def value_of(expression, names, sight):
    """The value of an expression where the variables with these names have these values (point 4)."""
    word = expression[0]
    if word == "number":
        return expression[1]
    if word == "name":
        return sight[names.index(expression[1])]
    left = value_of(expression[1], names, sight)
    if word == "not":
        return truth(left == 0)
    return joined(word, left, value_of(expression[2], names, sight))


def joined(operator, left, right):
    """The value of an operator between two values."""
    if operator == "+":
        return left + right
    if operator == "-":
        return left - right
    if operator == "*":
        return left * right
    if operator == "==":
        return truth(left == right)
    if operator == "<":
        return truth(left < right)
    if operator == "and":
        return truth(left != 0 and right != 0)
    return truth(left != 0 or right != 0)


def truth(holds):
    """1 for what holds, otherwise 0."""
    return 1 if holds else 0
