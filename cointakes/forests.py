"""Forests, without search: point 8."""

from math import comb

from cointakes.checks import check_full, check_way, check_web, is_between
from cointakes.errors import BadEdge, NotForest
from cointakes.masks import head_mask, near_masks, places_in, reached
from cointakes.webs import is_forest, parts


def check_forest(web):
    """Raise NotForest for a web with a ring."""
    if not is_forest(web):
        raise NotForest("the web has a ring")


def odd_way(web, laying):
    """The way of all orders that clear a full laying, None if it cannot be cleared."""
    check_web(web)
    check_full(web, laying)
    check_forest(web)
    if not is_odd(web, laying):
        return None
    # The side with odd heads goes first, and just one side has them.
    return tuple([1 - sides_of(web, laying, edge)[0] % 2 for edge in web[1]])


def is_odd(web, laying):
    """Whether the heads of each part are odd in number."""
    return all([sum([laying[place] for place in part]) % 2 == 1 for part in parts(web)])


def sides_of(web, laying, edge):
    """The pair of the numbers of heads in both sides of an edge."""
    low, high = edge
    near = near_masks(web)
    up = head_mask(laying)
    low_side = reached(near, low, 1 << high) & up
    high_side = reached(near, high, 1 << low) & up
    return len(places_in(low_side)), len(places_in(high_side))


def first_takes(web, laying):
    """The ascending tuple of the places that can go first in orders that clear a full laying."""
    return ends_of(web, odd_way(web, laying), 1)


def last_takes(web, laying):
    """The ascending tuple of the places that can go last in orders that clear a full laying."""
    return ends_of(web, odd_way(web, laying), 0)


def ends_of(web, way, side):
    """The ascending tuple of the places at which no edge ends (side 1) or begins (side 0); () for no way."""
    if way is None:
        return ()
    met = [edge[turn ^ side] for edge, turn in zip(web[1], way)]
    return tuple([place for place in range(web[0]) if place not in met])


def laying_of_way(web, way):
    """The full laying that orders of a way clear."""
    check_web(web)
    check_way(web, way)
    check_forest(web)
    coins = [1] * web[0]
    for (low, high), turn in zip(web[1], way):
        later = low if turn else high
        coins[later] = 1 - coins[later]
    return tuple(coins)


def forest_count(web, laying):
    """How many orders clear a full laying."""
    way = odd_way(web, laying)
    if way is None:
        return 0
    behind = later_masks(web, way)
    near = near_masks(web)
    count = 1
    many = 0
    for part in parts(web):
        many += len(part)
        count *= comb(many, len(part)) * sum(time_counts(near, behind, part[0], None))
    return count


def later_masks(web, way):
    """For each place the set of the neighbours that go behind it."""
    behind = [0] * web[0]
    for (low, high), turn in zip(web[1], way):
        if turn:
            behind[high] |= 1 << low
        else:
            behind[low] |= 1 << high
    return behind


def time_counts(near, behind, place, root):
    """For each time of a place how many orders of its branch have it then; the branch leads away from the root."""
    counts = [1]
    for other in places_in(near[place]):
        if other != root:
            branch = time_counts(near, behind, other, place)
            counts = merged(counts, branch, behind[place] >> other & 1)
    return counts


def merged(counts, branch, is_ahead):
    """The counts of a place with one branch more, if it goes ahead of that branch's own place or behind it."""
    found = [0] * (len(counts) + len(branch))
    for time, count in enumerate(counts):
        for before in range(len(branch) + 1):
            # How many of the branch go before the place tells whether the branch's own place does.
            fit = sum(branch[before:]) if is_ahead else sum(branch[:before])
            after = len(found) - 1 - time - before
            ways = comb(time + before, before) * comb(after, len(branch) - before)
            found[time + before] += count * fit * ways
    return found


def edge_sides(web, laying, index):
    """The pair of the numbers of heads in the sides of an edge's lesser and greater place."""
    check_web(web)
    check_full(web, laying)
    if not is_between(index, 0, len(web[1]) - 1):
        raise BadEdge("not the index of an edge")
    check_forest(web)
    return sides_of(web, laying, web[1][index])
