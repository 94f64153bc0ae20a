"""Programs, texts and checks that several test files use."""

from allmends.contracts import Contract
from allmends.notation import parse_program
from allmends.programs import Program
from allmends.tables import parse_contract

SOURCE = "letters 2 answers 2 proc main() local x 3 read x x = 0 write 0 end"

RULES = (
    "letters 2 answers 2 state over to 3 read 0 to 1 read 1 to 2 state write 0 to 4 "
    "state write 1 to 4 state write 0 to 4 write 1 to 4 state finish"
)


def sample_program():
    """The program of the document's examples."""
    return parse_program(SOURCE)


def body_program(body, variables=(("g", 3),), parameters=(), inner=(("x", 4),), letters=2, answers=3, others=()):
    """A program whose main procedure has this body."""
    return Program(letters, answers, variables, [("main", parameters, inner, body), *others])


def has_only_tuples(value):
    """True if a value has no list at any depth."""
    if isinstance(value, tuple):
        return all(has_only_tuples(part) for part in value)
    return value is None or isinstance(value, (int, str))


def as_lists(value):
    """The value with a list in the place of each tuple, at every depth."""
    return [as_lists(part) for part in value] if isinstance(value, tuple) else value


def places_with(program, role):
    """The places of a program that have this role."""
    return [place for place, row in enumerate(program.places) if row[1] == role]


def sample_contract():
    """The contract of the document's examples."""
    return parse_contract(RULES)


def open_state(letters=1, answers=2, target=0, finish=True, silence=True):
    """A state in which every event leads to the target."""
    return ([target] * letters, target, [target] * answers, finish, silence)


def open_contract(letters=1, answers=2, **flags):
    """A contract with one state in which every event is right."""
    return Contract(letters, answers, [open_state(letters, answers, **flags)])


# Near the bounds: 60 statements, nested six deep, five procedures with up to 64 sights, a weight near 200000.
LARGE = """
letters 1 answers 2 global f 2 global g 2 global h 2
proc main() local x 2 local y 2 local z 2
  read f
  while not f do
    x = x + 1 if x == 1 then if g then if h then if f < 1 then y = 1 - (y - (z + (x - g))) end end end end
    call p(x, y, g) call q() write g read f
  end
  z = h if z then write 1 else write 0 end call s()
  skip skip skip skip skip skip skip skip skip skip skip skip skip
end
proc p(a 2, b 2, c 2)
  if a then g = b else g = c end h = h + a if b then h = 1 - h end if c and not a then f = a end
end
proc q() local u 2 local v 2 local w 2
  read u if u then skip else call t() end v = g w = 1 - v if w == u then write w end
end
proc t() local u 2 local v 2 read u v = u if v then h = 1 - h end write h if h then call t() end skip end
proc s() local u 2 local v 2 read u while v < 1 do v = v + 1 end write v g = 0 skip end
"""


def large_program():
    """A program near the bounds of what a program may have."""
    return parse_program(LARGE)


def heavy_pair():
    """A program and a contract that are too heavy for any question, with a place."""
    program = parse_program(
        "letters 1 answers 2 global f 4 global g 4 global h 4 proc main() "
        + "write 0 " * 10 + "end proc p() " + "skip " * 30 + "end"
    )
    return program, Contract(1, 2, [open_state()] * 8)


# A run on a stream of 252 letters comes to the letter that is wrong.
FAR = (
    "letters 1 answers 2 global g 2 proc main() if 1 then " + "call p() " * 7 + "write g else write {} end end "
    "proc p() " + "call q() " * 6 + "end proc q() " + "read g " * 6 + "end"
)


def free_pair(many=49, answers=2):
    """A program with so many writes and a contract; with 49 writes their weight is exactly 8000."""
    program = parse_program(
        f"letters 1 answers {answers} global g 4 proc main() local x 4 " + "write 0 " * many + "end"
    )
    # Each write of a 1 leads to the next of five states, and nothing else is right.
    states = [([None], None, [None, (state + 1) % 5] + [None] * (answers - 2), True, True) for state in range(5)]
    return program, Contract(1, answers, states)


def calling_pair(many=29):
    """A program that calls and a contract with two states; with 29 statements their weight is exactly 8000."""
    program = parse_program(
        "letters 1 answers 2 global g 4 proc main() call p() write g " + "skip " * 17 + "end proc p() "
        + "g = g + 1 " * many + "end"
    )
    states = [([None], None, [None, 1], False, True), ([None], None, [None, None], True, True)]
    return program, Contract(1, 2, states)
