"""All least enough sets of places of a field, and all greatest refuted ones (points 49 to 55)."""

from allmends.cases import enough
from allmends.duality import in_order, maximal, minimal
from allmends.forms import frozen
from allmends.papers import holds
from allmends.refusals import refuse_field
from allmends.trees import has_keeps_row, tree_holds
from allmends.unions import Union


class SetLists:
    """All least enough and all greatest refuted sets of places of a field, and what shows it."""

    def __init__(self, field, least, greatest, answers):
        self.field = field
        self.least = in_order(least)
        self.greatest = in_order(greatest)
        self.mended = tuple([(answers[one].change, answers[one].paper) for one in self.least])
        self.refuted = tuple([answers[one].tree for one in self.greatest])
        self.asked = tuple(answers)
        union = Union()
        for answer in answers.values():
            union.include(answer.uses)
        self.uses = union.told()


class Search:
    """What was found so far: `answers` has those that were asked for, in the order in which they were."""

    def __init__(self, program, contract, field, limit):
        self.least = []
        self.greatest = []
        self.answers = {}
        self._program = program
        self._contract = contract
        self._field = field
        self._limit = limit

    def is_open(self, places):
        """True if the set contains no least set and lies in no greatest set found so far."""
        return not contains_one(places, self.least) and not lies_in_one(places, self.greatest)

    def settle(self, places):
        """Finds out about an open set of which no smaller one is open."""
        if self._is_enough(places):
            self.least.append(places)
        else:
            self.greatest.append(self._grown(places))

    def _is_enough(self, places):
        if contains_one(places, self.least):
            return True
        if places not in self.answers:
            self.answers[places] = enough(self._program, self._contract, places, limit=self._limit)
        return self.answers[places].enough

    def _grown(self, places):
        found = places
        for place in self._field:
            if place not in found:
                larger = tuple(sorted(found + (place,)))
                if not self._is_enough(larger):
                    found = larger
        return found


def least_sets(program, contract, field, *, limit=64):
    """All least enough sets and all greatest refuted sets of places of the field."""
    refuse_field(program, contract, field)
    ordered = tuple(sorted(field))
    search = Search(program, contract, ordered, limit)
    # A set that is not open is never open again, so that one pass through all of them finds each first one.
    for places in sets_within(ordered):
        if search.is_open(places):
            search.settle(places)
    return SetLists(ordered, search.least, search.greatest, search.answers)


def sets_within(field):
    """All sets of places of a field, in the order of point 50."""
    found = [()]
    for place in field:
        found = found + [one + (place,) for one in found]
    return in_order(found)


def contains_one(places, sets):
    """True if one of the sets has only members that are among the places."""
    return any([lies_within(one, places) for one in sets])


def lies_in_one(places, sets):
    """True if all places are members of one of the sets."""
    return any([lies_within(places, one) for one in sets])


def lies_within(one, other):
    """True if all members of one set are members of the other one."""
    return all([member in other for member in one])


def sets_hold(program, contract, field, least, mended, greatest, refuted):
    """True if these are all least enough and all greatest refuted sets of the field, with what shows it."""
    refuse_field(program, contract, field)
    low = frozen(least)
    high = frozen(greatest)
    if len(mended) != len(low) or len(refuted) != len(high):
        return False
    if not all([is_set_within(field, one) for one in low + high]):
        return False
    if len(minimal(low)) < len(low) or len(maximal(high)) < len(high):
        return False
    if not all([contains_one(one, low) or lies_in_one(one, high) for one in sets_within(sorted(field))]):
        return False
    return mends_hold(program, contract, low, mended) and trees_hold(program, contract, high, refuted)


def is_set_within(field, one):
    """True if these are places of the field in ascending order, each once."""
    return lies_within(one, field) and one == tuple(sorted(set(one)))


def mends_hold(program, contract, least, mended):
    """True if each of the sets has a change of some of its places, and a paper that holds."""
    for places, (change, paper) in zip(least, mended):
        if not lies_within(change.places, places) or not holds(program, contract, change, paper):
            return False
    return True


def trees_hold(program, contract, greatest, refuted):
    """True if each of the sets has a tree that shows that it is not enough."""
    for places, tree in zip(greatest, refuted):
        if has_keeps_row(tree) or not tree_holds(program, contract, places, tree):
            return False
    return True
