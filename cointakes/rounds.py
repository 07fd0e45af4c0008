"""Rounds, in which several coins are taken at once: point 23."""

from cointakes.checks import check_full, check_web, is_rising
from cointakes.forests import later_masks, odd_way
from cointakes.masks import groups_in, mask_of, near_masks, places_in
from cointakes.tables import ready_table
from cointakes.ways import group_signs


def next_rounds(web, laying):
    """For each state the list of the sets of places that can be taken in one round."""
    signs = group_signs(near_masks(web))
    return [[group for group in groups_in(heads) if signs[group] != 0] for heads in ready_table(web, laying)]


def rounds_table(groups):
    """For each state the least number of rounds that take all coins left, None if they cannot be taken."""
    rounds = [None] * len(groups)
    rounds[-1] = 0
    for state in reversed(range(len(groups) - 1)):
        further = [rounds[state | group] for group in groups[state]]
        numbers = [number + 1 for number in further if number is not None]
        rounds[state] = min(numbers, default=None)
    return rounds


def least_rounds(web, laying):
    """The least number of rounds in which all coins of a full laying are taken, None if they cannot be."""
    check_web(web)
    check_full(web, laying)
    return rounds_table(next_rounds(web, laying))[0]


def rounds_plan(web, laying):
    """A tuple of the places of each round, in so few rounds, None if there is none."""
    check_web(web)
    check_full(web, laying)
    groups = next_rounds(web, laying)
    rounds = rounds_table(groups)
    if rounds[0] is None:
        return None
    plan = []
    state = 0
    while rounds[state] > 0:
        best = [group for group in groups[state] if rounds[state | group] == rounds[state] - 1]
        plan.append(tuple(places_in(best[0])))
        state |= best[0]
    return tuple(plan)


def shows_rounds(web, laying, value):
    """Whether a value is what rounds_plan may return."""
    check_web(web)
    check_full(web, laying)
    groups = next_rounds(web, laying)
    least = rounds_table(groups)[0]
    if least is None:
        return value is None
    if not isinstance(value, tuple) or len(value) != least:
        return False
    if not all([is_rising(places, web[0]) for places in value]):
        return False
    state = 0
    for places in value:
        group = mask_of(places)
        if group not in groups[state]:
            return False
        state |= group
    return state == len(groups) - 1


def forest_rounds(web, laying):
    """The least number of rounds of a forest."""
    way = odd_way(web, laying)
    if way is None:
        return None
    behind = later_masks(web, way)
    return 1 + max([edges_from(behind, place) for place in range(web[0])])


def edges_from(behind, place):
    """The greatest number of edges one behind another that lead from a place to later ones."""
    return max([1 + edges_from(behind, other) for other in places_in(behind[place])], default=0)
