"""Ways to direct a web: point 7."""

from cointakes.checks import check_full, check_order, check_web
from cointakes.masks import groups_in, laying_with, lowest_in, near_masks
from cointakes.tables import clear_masks, ready_table


def way_of(web, order):
    """The way of an order."""
    check_web(web)
    check_order(web, order)
    return tuple([int(order.index(low) > order.index(high)) for low, high in web[1]])


def way_count(web):
    """How many ways there are."""
    check_web(web)
    states = 1 << web[0]
    return count_ways(web, [states - 1 - state for state in range(states)])


def ways_for(web, laying):
    """How many ways have orders that clear a full laying."""
    check_web(web)
    check_full(web, laying)
    return count_ways(web, ready_table(web, laying))


def count_ways(web, firsts):
    """How many ways direct a web such that in each state only places of firsts[state] go first of those left."""
    signs = group_signs(near_masks(web))
    counts = [0] * len(firsts)
    counts[-1] = 1
    for state in reversed(range(len(firsts) - 1)):
        counts[state] = sum([signs[group] * counts[state | group] for group in groups_in(firsts[state])])
    return counts[0]


def group_signs(near):
    """For each set of places 0 if two of them are neighbours, otherwise 1 if they are odd in number, -1 if even."""
    # A way with n first places is counted once for each set of some of them; with these signs that makes 1.
    signs = [-1]
    for group in range(1, 1 << len(near)):
        place = lowest_in(group)
        rest = group ^ 1 << place
        signs.append(0 if near[place] & rest else -signs[rest])
    return signs


def laying_count(web):
    """How many full layings can be cleared."""
    check_web(web)
    return len(clear_masks(web))


def least_laying(web):
    """The least full laying that can be cleared."""
    check_web(web)
    return min([laying_with(heads, web[0]) for heads in clear_masks(web)])


def is_even(web, laying):
    """Whether the heads of a full laying are even in number exactly if places and edges together are."""
    check_web(web)
    check_full(web, laying)
    return (sum(laying) - web[0] - len(web[1])) % 2 == 0
