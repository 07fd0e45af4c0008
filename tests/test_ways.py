import unittest
from math import factorial

import brute
from brute import COMPLETE, LONG_PATH, LOOSE, PATH, RING_OF_NINE, SINGLE, STAR, TRIANGLE
from cointakes.orders import can_clear
from cointakes.ways import is_even, laying_count, least_laying, way_count, way_of, ways_for
from exact import ExactCase


class Ways(ExactCase):
    def test_way_of(self):
        self.same(way_of(SINGLE, (0,)), ())
        self.same(way_of(TRIANGLE, (2, 0, 1)), (0, 1, 1))
        self.same(way_of(LONG_PATH, tuple(range(9))), (0,) * 8)
        for web in brute.some_webs():
            for order in brute.orders_of(web):
                self.same(way_of(web, order), brute.way(web, order))

    def test_small_webs(self):
        for web in brute.some_webs():
            orders = brute.by_laying(web)
            cleared = [laying for laying in orders if orders[laying]]
            self.same(way_count(web), len({brute.way(web, order) for order in brute.orders_of(web)}))
            self.same(laying_count(web), len(cleared))
            self.same(least_laying(web), min(cleared))
            for laying in orders:
                self.same(ways_for(web, laying), len({brute.way(web, order) for order in orders[laying]}))

    def test_webs_of_nine_places(self):
        self.same(way_count(LOOSE), 1)
        self.same(way_count(STAR), 256)
        self.same(way_count(RING_OF_NINE), 510)
        self.same(way_count(COMPLETE), factorial(9))
        self.same(laying_count(LOOSE), 1)
        self.same(laying_count(STAR), 256)
        self.same(laying_count(COMPLETE), 126)
        self.same(laying_count(RING_OF_NINE), 255)
        self.same(least_laying(LOOSE), (1,) * 9)
        self.same(least_laying(LONG_PATH), (0,) * 8 + (1,))
        self.same(least_laying(COMPLETE), (0,) * 4 + (1,) * 5)

    def test_ways_for_nine_places(self):
        self.same(ways_for(LOOSE, (1,) * 9), 1)
        self.same(ways_for(LOOSE, (0,) + (1,) * 8), 0)
        self.same(ways_for(STAR, (1,) * 9), 1)
        self.same(ways_for(COMPLETE, (1, 0) * 4 + (1,)), factorial(5) * factorial(4))
        self.same(ways_for(RING_OF_NINE, (1, 1) + (0,) * 7), 2)

    def test_is_even(self):
        self.same(is_even(SINGLE, (1,)), True)
        self.same(is_even(SINGLE, (0,)), False)
        self.same(is_even(PATH, (1, 1, 0)), False)
        self.same(is_even(PATH, (0, 1, 0)), True)
        self.same(is_even(TRIANGLE, (0, 0, 0)), True)
        for web in brute.some_webs():
            for laying in brute.full_layings(web):
                even = laying.count(1) % 2 == 0
                self.same(is_even(web, laying), even == ((web[0] + len(web[1])) % 2 == 0))
                if can_clear(web, laying):
                    self.same(is_even(web, laying), True)


if __name__ == "__main__":
    unittest.main()
