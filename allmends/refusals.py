"""What several questions refuse in the same way (points 32, 36, 40, 45, 53 and 68)."""

from allmends.bounds import weight
from allmends.errors import InvalidChange, InvalidPlaces, Mismatch, TooLarge
from allmends.forms import product_of

LARGEST_WEIGHT = 200000
LARGEST_FIELD = 8
LARGEST_FREE_WEIGHT = 8000
MOST_OUTCOMES = 24


def refuse_mismatch(program, contract):
    """Raises Mismatch if program and contract differ in their letters."""
    if program.letters != contract.letters or program.answers != contract.answers:
        raise Mismatch("the program and the contract differ in their letters")


def refuse_change(program, change):
    """Raises InvalidChange if there is a change or a draft that does not fit the program."""
    if change is not None and not change.fits(program):
        raise InvalidChange("the change does not fit the program")


def refuse_places(program, places):
    """Raises InvalidPlaces with the first place that does not exist or that stood before."""
    stood = {}
    for place in places:
        if not 0 <= place < len(program.places) or place in stood:
            raise InvalidPlaces(place)
        stood[place] = True


def refuse_weight(program, contract, most=LARGEST_WEIGHT):
    """Raises TooLarge if the weight of program and contract is too large."""
    if weight(program, contract) > most:
        raise TooLarge("weight")


def refuse_question(program, contract, places):
    """What a question about some places refuses."""
    refuse_mismatch(program, contract)
    refuse_places(program, places)
    refuse_weight(program, contract)


def refuse_field(program, contract, field):
    """What a question about a field refuses."""
    refuse_mismatch(program, contract)
    refuse_places(program, field)
    if len(field) > LARGEST_FIELD:
        raise TooLarge("field")
    refuse_weight(program, contract)


def refuse_play(program, contract, places):
    """What a question about free play refuses."""
    refuse_mismatch(program, contract)
    refuse_places(program, places)
    refuse_weight(program, contract, LARGEST_FREE_WEIGHT)
    outcomes = product_of([size for name, size in program.variables]) * len(contract.states) * 2
    if len(program.procedures) > 1 and outcomes > MOST_OUTCOMES:
        raise TooLarge("outcomes")
