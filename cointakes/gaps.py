"""Gaps of places in the orders that clear a laying: point 29."""

from cointakes.checks import check_full, check_two_places, check_web
from cointakes.errors import TooMany
from cointakes.orders import can_clear, orders_from
from cointakes.ratios import ratio_of
from cointakes.tables import on_table, ready_table

MOST_FOR_GAPS = 7


def check_few(web):
    """Raise TooMany for a web of more places than gaps are told for."""
    if web[0] > MOST_FOR_GAPS:
        raise TooMany(MOST_FOR_GAPS)


def gap_chances(web, laying, one, other):
    """The ascending tuple of the pairs (gap, chance) of two places, () if no order clears the laying."""
    check_web(web)
    check_full(web, laying)
    check_two_places(web, one, other)
    check_few(web)
    ready = ready_table(web, laying)
    orders = orders_from(ready, on_table(ready), 0)
    counts = {}
    for order in orders:
        gap = order.index(other) - order.index(one)
        counts[gap] = counts.get(gap, 0) + 1
    return tuple([(gap, ratio_of(counts[gap], len(orders))) for gap in sorted(counts)])


def mean_gap(web, laying):
    """The mean size of the gap of two unlike places, None for a single place or if no order clears the laying."""
    check_web(web)
    check_full(web, laying)
    check_few(web)
    if web[0] == 1 or not can_clear(web, laying):
        return None
    # In each order all pairs of places together have the gaps of all pairs of times: the mean of these is the same.
    return ratio_of(web[0] + 1, 3)
