"""Renamings of layings, and layings that are alike: point 24."""

from cointakes.checks import check_full, check_laying, check_pair, check_web
from cointakes.masks import near_masks, places_in
from cointakes.orders import order_count


def named(names, place, other):
    """The names of places, None for each that has none yet, with one more: a place is renamed to another one."""
    return names[:place] + (other,) + names[place + 1:]


def may_name(near, laying, names, place, other):
    """Whether a place may be renamed to another one beside the names that there are."""
    if other in names or laying[place] != laying[other]:
        return False
    pairs = [(one, name) for one, name in enumerate(names) if name is not None]
    return all([(near[place] >> one & 1) == (near[other] >> name & 1) for one, name in pairs])


def can_name(near, laying, names, place, other):
    """Whether a renaming has the names that there are, and a place renamed to another one."""
    if not may_name(near, laying, names, place, other):
        return False
    more = named(names, place, other)
    if None not in more:
        return True
    free = more.index(None)
    for name in range(len(near)):
        if can_name(near, laying, more, free, name):
            return True
    return False


def renamings(web, laying):
    """How many renamings a laying has."""
    check_web(web)
    check_laying(web, laying)
    near = near_masks(web)
    names = (None,) * web[0]
    count = 1
    for place in range(web[0]):
        # Each name that this place can get beside the fixed ones ahead of it has as many renamings.
        count *= len([other for other in range(web[0]) if can_name(near, laying, names, place, other)])
        names = named(names, place, place)
    return count


def places_alike(web, laying):
    """The ascending tuple of the ascending tuples of all places that renamings put in one another's place."""
    check_web(web)
    check_laying(web, laying)
    near = near_masks(web)
    names = (None,) * web[0]
    found = []
    for place in range(web[0]):
        alike = tuple([other for other in range(web[0]) if can_name(near, laying, names, place, other)])
        if alike not in found:
            found.append(alike)
    return tuple(found)


def orders_alike(web, laying):
    """How many orders clear a full laying if those are the same that a renaming makes of one another."""
    # Only the renaming that changes nothing leaves an order as it is, so that always as many orders are the same.
    return order_count(web, laying) // renamings(web, laying)


def next_named(near, cells, place):
    """The pair of bits and cells behind a place of the first cell that is named next.

    Cells part the places without a name: those of earlier cells are named first. The bits tell for each name to come
    whether its place is a neighbour; neighbours are named first, so that the bits are the greatest ones.
    """
    bits = []
    behind = []
    for cell in (cells[0] & ~(1 << place), *cells[1:]):
        for part, bit in ((cell & near[place], 1), (cell & ~near[place], 0)):
            bits.extend([bit] * len(places_in(part)))
            if part:
                behind.append(part)
    return tuple(bits), tuple(behind)


def least_form(web, laying):
    """The least pair (web, laying) that can be made by naming the places of a full laying anew."""
    check_web(web)
    check_full(web, laying)
    near = near_masks(web)
    # For each way to part the places without a name the least coins of those that have one.
    coins = {((1 << web[0]) - 1,): ()}
    edges = []
    for name in range(web[0]):
        found = {}
        for cells in coins:
            for place in places_in(cells[0]):
                bits, behind = next_named(near, cells, place)
                best = found.setdefault(bits, {})
                more = (*coins[cells], laying[place])
                best[behind] = min(best.get(behind, more), more)
        # As many edges are less if the first place at which they differ has the edge.
        most = max(found)
        coins = found[most]
        edges.extend([(name, name + 1 + index) for index, bit in enumerate(most) if bit])
    return (web[0], tuple(edges)), coins[()]


def are_alike(one, other):
    """Whether two pairs (web, laying) have the same least form."""
    check_pair(one)
    check_pair(other)
    return least_form(one[0], one[1]) == least_form(other[0], other[1])
