"""Sets of places as integers: a place k is in the set if the bit k is 1."""


def mask_of(places):
    """The set of some places."""
    mask = 0
    for place in places:
        mask |= 1 << place
    return mask


def places_in(mask):
    """The ascending list of the places of a set."""
    return [place for place in range(mask.bit_length()) if mask >> place & 1]


def lowest_in(mask):
    """The least place of a set that is not empty."""
    return (mask & -mask).bit_length() - 1


def groups_in(mask):
    """The list of the sets of some places of a set, the empty one left out."""
    groups = []
    group = mask
    while group:
        groups.append(group)
        group = (group - 1) & mask
    return groups


def head_mask(laying):
    """The set of the places with heads up."""
    return mask_of([place for place, coin in enumerate(laying) if coin == 1])


def lying_mask(laying):
    """The set of the places with a coin."""
    return mask_of([place for place, coin in enumerate(laying) if coin is not None])


def laying_with(heads, many):
    """The full laying of so many places with just these heads up."""
    return tuple([heads >> place & 1 for place in range(many)])


def near_masks(web):
    """For each place the set of its neighbours."""
    many, edges = web
    near = [0] * many
    for low, high in edges:
        near[low] |= 1 << high
        near[high] |= 1 << low
    return near


def reached(near, place, barred):
    """The set of the places to which edges lead from a place, itself too, past no barred one."""
    found = 1 << place
    waiting = [place]
    while waiting:
        fresh = near[waiting.pop()] & ~found & ~barred
        found |= fresh
        waiting.extend(places_in(fresh))
    return found
