"""Leaves: places more that have an edge to one place alone: point 30."""

from cointakes.checks import MOST_PLACES, check_coin, check_full, check_laying, check_place, check_web
from cointakes.errors import NotClear, TooMany
from cointakes.forests import check_forest
from cointakes.times import time_table


def leafed(web, laying, place, coin):
    """The pair (web, laying) with one place more, the last one, that has an edge to a place alone, with a coin."""
    check_web(web)
    check_laying(web, laying)
    check_place(web, place)
    check_coin(coin)
    many, edges = web
    if many == MOST_PLACES:
        raise TooMany(MOST_PLACES)
    return (many + 1, tuple(sorted([*edges, (place, many)]))), (*laying, coin)


def leaf_pair(web, laying, place):
    """The pair of the numbers of orders with a leaf more that goes ahead of a place, and with one behind it."""
    check_web(web)
    check_full(web, laying)
    check_place(web, place)
    check_forest(web)
    counts = time_table(web, laying)[place]
    if sum(counts) == 0:
        raise NotClear("no order clears the laying")
    # A leaf can be put into each order at each time up to that of the place, or at each one behind it.
    ahead = sum([(time + 1) * count for time, count in enumerate(counts)])
    return ahead, sum(counts) * (web[0] + 1) - ahead
