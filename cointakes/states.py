"""States: point 9."""

from cointakes.checks import check_full, check_state, check_web
from cointakes.masks import mask_of, near_masks, places_in
from cointakes.ratios import chances_of
from cointakes.tables import on_table, ready_table, to_table


def check_all(web, laying, state):
    """Raise the error of the leftmost wrong argument."""
    check_web(web)
    check_full(web, laying)
    check_state(web, state)


def laying_behind(web, laying, state):
    """The laying of a state."""
    check_all(web, laying, state)
    near = near_masks(web)
    away = mask_of(state)
    coins = list(laying)
    for place in range(web[0]):
        if away >> place & 1:
            coins[place] = None
        else:
            coins[place] ^= len(places_in(near[place] & away)) % 2
    return tuple(coins)


def ready(web, laying, state):
    """The ascending tuple of the places whose coins can be taken in a state."""
    check_all(web, laying, state)
    return tuple(places_in(ready_table(web, laying)[mask_of(state)]))


def ways_on(web, laying, state):
    """The number of orders in which all coins left can be taken."""
    check_all(web, laying, state)
    return on_table(ready_table(web, laying))[mask_of(state)]


def ways_to(web, laying, state):
    """The number of orders in which just the coins of a state can be taken from the full laying."""
    check_all(web, laying, state)
    return to_table(ready_table(web, laying))[mask_of(state)]


def begun_counts(web, laying, state):
    """For each place how many of the ways on from a state begin with it."""
    table = ready_table(web, laying)
    on = on_table(table)
    away = mask_of(state)
    counts = [0] * web[0]
    for place in places_in(table[away]):
        counts[place] = on[away | 1 << place]
    return counts


def safe_takes(web, laying, state):
    """The ascending tuple of the ready places behind whose take all coins left can be taken."""
    check_all(web, laying, state)
    counts = begun_counts(web, laying, state)
    return tuple([place for place, count in enumerate(counts) if count > 0])


def next_chances(web, laying, state):
    """For each place the chance that a way on begins with it; None without ways on or without coins left."""
    check_all(web, laying, state)
    return chances_of(begun_counts(web, laying, state))
