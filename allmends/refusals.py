"""What several questions refuse in the same way (points 32, 36, 40 and 45)."""

from allmends.bounds import weight
from allmends.errors import InvalidChange, InvalidPlaces, Mismatch, TooLarge

LARGEST_WEIGHT = 200000


def refuse_mismatch(program, contract):
    """Raises Mismatch if program and contract differ in their letters."""
    if program.letters != contract.letters or program.answers != contract.answers:
        raise Mismatch("the program and the contract differ in their letters")


def refuse_change(program, change):
    """Raises InvalidChange if there is a change or a draft that does not fit the program."""
    if change is not None and not change.fits(program):
        raise InvalidChange("the change does not fit the program")


def refuse_places(program, places):
    """Raises InvalidPlaces with the first place that does not exist or that stood before."""
    stood = {}
    for place in places:
        if not 0 <= place < len(program.places) or place in stood:
            raise InvalidPlaces(place)
        stood[place] = True


def refuse_weight(program, contract):
    """Raises TooLarge if the weight of program and contract is too large."""
    if weight(program, contract) > LARGEST_WEIGHT:
        raise TooLarge("weight")
