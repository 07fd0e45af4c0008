"""Rings as rows: point 28."""

from cointakes.checks import check_order, check_ring, is_between
from cointakes.errors import BadIndex
from cointakes.longrows import chance_of, fewest_of, mean_of, most_of, row_value, worth_of
from cointakes.masks import near_masks
from cointakes.rings import ring_count, ring_opened
from cointakes.rows import count_left, line_of, number_in, order_with


def ring_value(ring, joined):
    """The value of a ring: each take leaves a row, and nothing beside it; joined as in span_values."""
    nothing = joined(0, [])
    opened = [ring_opened(ring, place) for place, coin in enumerate(ring) if coin == 1]
    return joined(len(ring), [(row_value(row, joined), nothing) for row in opened])


def ring_left(ring):
    """The pair of the least and the greatest number of coins left at last, whatever is taken."""
    check_ring(ring)
    return ring_value(ring, fewest_of), ring_value(ring, most_of)


def ring_worth(ring):
    """The worth of a ring for two hands."""
    check_ring(ring)
    return ring_value(ring, worth_of)


def ring_chance(ring):
    """The chance that a chance taker takes all coins of a ring."""
    check_ring(ring)
    return ring_value(ring, chance_of)


def ring_mean_left(ring):
    """The mean number of coins that a chance taker leaves of a ring."""
    check_ring(ring)
    return ring_value(ring, mean_of)


def loop_of(many):
    """The web of a ring of so many coins, which may be more than other webs have."""
    return many, ((0, many - 1), *line_of(many)[1])


def count_around(coins):
    """The number of orders in which all coins of a ring with an empty place at least can be taken."""
    gap = coins.index(None)
    return count_left(coins[gap:] + coins[:gap])


def ring_number(ring, order):
    """The number of an order among those that clear a ring, ascending, None if it does not."""
    check_ring(ring)
    loop = loop_of(len(ring))
    check_order(loop, order)
    return number_in(near_masks(loop), ring, order, count_around)


def ring_at(ring, index):
    """The order with a number among those that clear a ring."""
    check_ring(ring)
    if not is_between(index, 0, ring_count(ring) - 1):
        raise BadIndex("no order has this number")
    return order_with(near_masks(loop_of(len(ring))), ring, index, count_around)
