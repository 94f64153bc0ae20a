"""Sets of integers, and which of them have a member in common (points 50 and 54)."""


def minimal(sets):
    """Those of the sets that contain no other of them."""
    members = members_of(sets)
    masks = distinct_masks(sets, members)
    return listed([one for one in masks if not any([lies_in(other, one) for other in masks])], members)


def maximal(sets):
    """Those of the sets that lie in no other of them."""
    members = members_of(sets)
    masks = distinct_masks(sets, members)
    return listed([one for one in masks if not any([lies_in(one, other) for other in masks])], members)


def transversals(sets):
    """All least sets that have a member in common with each of the sets."""
    members = members_of(sets)
    found = [0]
    # A set that contains another one asks for nothing that the other one does not ask for.
    for mask in distinct_masks(minimal(sets), members):
        found = meeting(found, mask)
    return listed(found, members)


def meeting(found, mask):
    """All least sets that meet one more set, where `found` has the least ones for the sets before."""
    met = [one for one in found if one & mask]
    grown = [one | bit for one in found if not one & mask for bit in bits_of(mask)]
    return met + [one for one in grown if not any([one & other == other for other in met])]


def members_of(sets):
    """All integers that occur, in ascending order."""
    return sorted({member for one in sets for member in one})


def distinct_masks(sets, members):
    """Each of the sets once, as a number that has a bit for each member."""
    bits = {member: 1 << index for index, member in enumerate(members)}
    masks = {}
    for one in sets:
        mask = 0
        for member in one:
            mask = mask | bits[member]
        masks[mask] = True
    return list(masks)


def lies_in(one, other):
    """True if the set of one mask is a proper part of that of the other mask."""
    return one != other and one & other == one


def bits_of(mask):
    """The bits of a mask, each as a mask of its own."""
    return [1 << index for index in range(mask.bit_length()) if mask >> index & 1]


def listed(masks, members):
    """The sets of some masks, in the order of point 50."""
    return in_order([
        tuple([member for index, member in enumerate(members) if mask >> index & 1]) for mask in masks
    ])


def in_order(sets):
    """The sets by the number of their members, and those of one number as tuples."""
    return tuple([one for size, one in sorted([(len(one), one) for one in sets])])
