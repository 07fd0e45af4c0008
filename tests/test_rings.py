import unittest
from functools import lru_cache
from math import comb

import brute
from brute import ring_of
from cointakes.errors import BadPlace
from cointakes.rings import ring_count, ring_first, ring_opened
from exact import ExactCase


@lru_cache(maxsize=None)
def count_by_takes(coins):
    """How many orders clear a ring with empty places, take by take."""
    if all(coin is None for coin in coins):
        return 1
    behind = [brute.take(ring_of(len(coins)), coins, place) for place in range(len(coins))]
    return sum(count_by_takes(other) for other in behind if other is not None)


class Rings(ExactCase):
    def test_all_small_rings(self):
        for many in (3, 4, 5, 6, 7):
            for ring, orders in brute.by_laying(ring_of(many)).items():
                self.same(ring_count(ring), len(orders))
                self.same(ring_first(ring), tuple(sorted({order[0] for order in orders})))

    def test_larger_rings(self):
        for up in range(0, 1 << 11, 13):
            ring = tuple(up >> k & 1 for k in range(11))
            self.same(ring_count(ring), count_by_takes(ring))

    def test_opened(self):
        for many in (3, 4, 5):
            for ring in brute.full_layings(ring_of(many)):
                for place in range(many):
                    behind = brute.take(ring_of(many), ring, place)
                    if behind is None:
                        self.fails(BadPlace, {}, ring_opened, ring, place)
                    else:
                        self.same(ring_opened(ring, place), behind[place + 1:] + behind[:place])

    def test_places_of_no_coin(self):
        for place in (-1, 3, True, None, (0,)):
            self.fails(BadPlace, {}, ring_opened, (1, 1, 1), place)

    def test_three_coins(self):
        self.same([ring_opened((1, 1, 1), 0), ring_opened((1, 1, 1), 2)], [(0, 0), (0, 0)])
        self.same([ring_count((1, 1, 1)), ring_first((1, 1, 1))], [0, ()])
        self.same([ring_count((0, 0, 0)), ring_first((0, 0, 0))], [0, ()])
        self.same([ring_count((1, 0, 1)), ring_first((1, 0, 1))], [2, (0, 2)])

    def test_twenty_coins_with_two_heads(self):
        for place in range(1, 20):
            ring = (1,) + tuple(int(k == place) for k in range(1, 20))
            self.same(ring_count(ring), 2 * comb(18, place - 1))
            self.same(ring_first(ring), (0, place))

    def test_twenty_coins(self):
        self.same(ring_first((1,) * 20), tuple(range(20)))
        self.same(ring_opened((1,) * 20, 7), (0,) + (1,) * 17 + (0,))
        self.same(ring_opened((1,) * 19 + (0,), 18), (1,) + (1,) * 17 + (0,))
        for ring in ((0,) * 20, (1,) * 19 + (0,), (1,) + (0,) * 19):
            self.same([ring_count(ring), ring_first(ring)], [0, ()])

    def test_turned_rings_have_equal_counts(self):
        ring = (1, 1, 0, 1, 0, 0, 0, 1, 1, 1, 0, 0, 1, 0, 0, 1, 0, 0, 0, 0)
        for place in range(20):
            self.same(ring_count(ring[place:] + ring[:place]), ring_count(ring))
        self.same(ring_count(ring[::-1]), ring_count(ring))


if __name__ == "__main__":
    unittest.main()
