"""Programs, texts and checks that several test files use."""

from allmends.contracts import Contract
from allmends.notation import parse_program
from allmends.programs import Program
from allmends.tables import parse_contract

SOURCE = "letters 2 answers 2 proc main() local x 3 read x x = 0 write 0 end"

RULES = (
    "letters 2 answers 2 state over to 3 read 0 to 1 read 1 to 2 state write 0 to 4 "
    "state write 1 to 4 state write 0 to 4 write 1 to 4 state finish"
)


def sample_program():
    """The program of the document's examples."""
    return parse_program(SOURCE)


def body_program(body, variables=(("g", 3),), parameters=(), inner=(("x", 4),), letters=2, answers=3, others=()):
    """A program whose main procedure has this body."""
    return Program(letters, answers, variables, [("main", parameters, inner, body), *others])


def has_only_tuples(value):
    """True if a value has no list at any depth."""
    if isinstance(value, tuple):
        return all(has_only_tuples(part) for part in value)
    return value is None or isinstance(value, (int, str))


def sample_contract():
    """The contract of the document's examples."""
    return parse_contract(RULES)


def open_state(letters=1, answers=2, target=0, finish=True, silence=True):
    """A state in which every event leads to the target."""
    return ([target] * letters, target, [target] * answers, finish, silence)


def open_contract(letters=1, answers=2, **flags):
    """A contract with one state in which every event is right."""
    return Contract(letters, answers, [open_state(letters, answers, **flags)])
