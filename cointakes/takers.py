"""Chance takers: point 16."""

from cointakes.checks import check_full, check_order, check_place, check_web, check_weights
from cointakes.masks import places_in
from cointakes.ratios import ratio_product, ratio_sum
from cointakes.tables import ready_table


def met_chances(ready, weights):
    """For each state the chance that it is met, if each ready place is taken with a chance by its weight."""
    parts = [[] for _ in ready]
    parts[0].append((1, 1))
    chances = []
    for state, heads in enumerate(ready):
        # Takes lead to greater states, so that all parts of this one are known.
        chances.append(ratio_sum(parts[state]))
        places = places_in(heads)
        total = sum([weights[place] for place in places])
        for place in places:
            parts[state | 1 << place].append(ratio_product(chances[state], (weights[place], total)))
    return chances


def last_rows(web, laying):
    """The list of the pairs (state, chance) of the last states of a chance taker."""
    ready = ready_table(web, laying)
    chances = met_chances(ready, (1,) * web[0])
    lasts = [state for state, heads in enumerate(ready) if heads == 0 and chances[state][0] > 0]
    return [(tuple(places_in(state)), chances[state]) for state in lasts]


def clear_chance(web, laying):
    """The chance that a chance taker takes all coins of a full laying."""
    check_web(web)
    check_full(web, laying)
    return left_chances(web, laying)[0]


def left_chances(web, laying):
    """The tuple of the chances that 0, 1, .. coins are left at last, up to all."""
    check_web(web)
    check_full(web, laying)
    found = [[] for _ in range(web[0] + 1)]
    for state, chance in last_rows(web, laying):
        found[web[0] - len(state)].append(chance)
    return tuple([ratio_sum(chances) for chances in found])


def mean_left(web, laying):
    """The mean number of coins that are left at last."""
    check_web(web)
    check_full(web, laying)
    return ratio_sum([ratio_product((left, 1), chance) for left, chance in enumerate(left_chances(web, laying))])


def last_chances(web, laying):
    """The ascending tuple of the pairs (state, chance) of the last states."""
    check_web(web)
    check_full(web, laying)
    return tuple(sorted(last_rows(web, laying)))


def take_chance(web, laying, order):
    """The chance that a chance taker takes all coins in an order."""
    check_web(web)
    check_full(web, laying)
    check_order(web, order)
    ready = ready_table(web, laying)
    state = 0
    choices = 1
    for place in order:
        if not ready[state] >> place & 1:
            return 0, 1
        choices *= len(places_in(ready[state]))
        state |= 1 << place
    return 1, choices


def place_chance(web, laying, place):
    """The chance that a chance taker takes the coin of a place at all."""
    check_web(web)
    check_full(web, laying)
    check_place(web, place)
    return ratio_sum([chance for state, chance in last_rows(web, laying) if place in state])


def weighted_clear(web, laying, weights):
    """The chance that all coins are taken if each one is taken with a chance by its weight."""
    check_web(web)
    check_full(web, laying)
    check_weights(web, weights)
    return met_chances(ready_table(web, laying), weights)[-1]
