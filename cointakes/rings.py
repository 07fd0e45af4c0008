"""Rings: point 15."""

from cointakes.checks import check_head, check_ring
from cointakes.rows import row_count


def ring_count(ring):
    """The number of orders that clear a ring."""
    check_ring(ring)
    return sum([row_count(ring_opened(ring, place)) for place, coin in enumerate(ring) if coin == 1])


def ring_first(ring):
    """The ascending tuple of the places that can go first."""
    check_ring(ring)
    # A take turns two coins of the row that is left, so that its heads are odd just if those of the ring are even.
    return tuple([place for place, coin in enumerate(ring) if coin == 1]) if sum(ring) % 2 == 0 else ()


def ring_opened(ring, place):
    """The row that is left behind the take of a place, from the place behind it on."""
    check_ring(ring)
    check_head(ring, place)
    row = list(ring[place + 1:] + ring[:place])
    row[0] = 1 - row[0]
    row[-1] = 1 - row[-1]
    return tuple(row)
