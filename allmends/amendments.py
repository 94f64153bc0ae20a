"""Programs with another expression, and whether that touches what was used (points 69 and 71)."""

from allmends.errors import InvalidPlaces
from allmends.rewriting import rewritten

FLAG_SLOTS = {"finish": 3, "silence": 4}


def amended(program, place, expression):
    """The program with another expression at a place."""
    if not 0 <= place < len(program.places):
        raise InvalidPlaces(place)
    return rewritten(program, {place: expression})


def untouched(uses, program, later, contract, later_contract):
    """True if all that was used is the same in the later program and in the later contract."""
    entries, rows, flags = uses
    return (
        all([program.value_at(place, sight) == later.value_at(place, sight) for place, sight in entries])
        and all([contract.follow(state, event) == later_contract.follow(state, event) for state, event in rows])
        and all([flag_in(contract, flag) == flag_in(later_contract, flag) for flag in flags])
    )


def flag_in(contract, flag):
    """The flag of a contract that a pair of its word and a state names."""
    word, state = flag
    return contract.states[state][FLAG_SLOTS[word]]
