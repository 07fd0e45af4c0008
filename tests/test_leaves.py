import unittest
from math import factorial

import brute
from brute import COMPLETE, LONG_PATH, LOOSE, PATH, RING_OF_NINE, SINGLE, STAR, TADPOLE, TRIANGLE
from cointakes.errors import BadCoin, BadLaying, BadPlace, NotClear, NotForest, TooMany
from cointakes.leaves import leaf_pair, leafed
from cointakes.orders import order_count
from exact import ExactCase


def with_leaf(web, place):
    return (web[0] + 1, tuple(sorted(web[1] + ((place, web[0]),))))


class Leafed(ExactCase):
    def test_small_webs(self):
        for web in brute.small_webs():
            for laying in brute.any_layings(web)[::5]:
                for place in range(web[0]):
                    for coin in (0, 1):
                        self.same(leafed(web, laying, place, coin), (with_leaf(web, place), laying + (coin,)))

    def test_what_comes_out_is_a_web(self):
        # An edge to the last place stands among the others.
        self.same(leafed(TRIANGLE, (1, None, 0), 0, 1), ((4, ((0, 1), (0, 2), (0, 3), (1, 2))), (1, None, 0, 1)))
        self.same(leafed(SINGLE, (None,), 0, 0), ((2, ((0, 1),)), (None, 0)))

    def test_eight_and_nine_places(self):
        web, laying = leafed((8, ()), (1,) * 8, 7, 0)
        self.same([web, laying], [(9, ((7, 8),)), (1,) * 8 + (0,)])
        for nine in (LOOSE, COMPLETE, LONG_PATH):
            self.fails(TooMany, {"most": 9}, leafed, nine, (1, 0, None) * 3, 0, 1)

    def test_errors_ahead_of_too_many(self):
        for coin in (None, True, False, 2, -1, "1", (1,), [0]):
            self.fails(BadCoin, {}, leafed, LOOSE, (1,) * 9, 0, coin)
            self.fails(BadCoin, {}, leafed, PATH, (1, 1, 1), 0, coin)
            self.fails(BadPlace, {}, leafed, LOOSE, (1,) * 9, 9, coin)
        self.fails(BadLaying, {"index": 8}, leafed, LOOSE, (1,) * 8 + (2,), 9, 2)


class LeafPair(ExactCase):
    def test_small_forests(self):
        for web in brute.small_webs():
            if brute.has_ring(web):
                continue
            found = brute.by_laying(web)
            for place in range(web[0]):
                more = brute.by_laying(with_leaf(web, place))
                for laying, orders in found.items():
                    if orders:
                        turned = laying[:place] + (1 - laying[place],) + laying[place + 1:] + (1,)
                        ahead, behind = leaf_pair(web, laying, place)
                        self.same([ahead, behind], [len(more[turned]), len(more[laying + (0,)])])
                        self.same(ahead + behind, len(orders) * (web[0] + 1))
                    else:
                        self.fails(NotClear, {}, leaf_pair, web, laying, place)

    def test_larger_forests(self):
        for web in (brute.SPIDER, brute.SEVERAL, brute.line(8)):
            for laying in brute.full_layings(web)[::3]:
                if order_count(web, laying):
                    for place in range(web[0]):
                        turned = laying[:place] + (1 - laying[place],) + laying[place + 1:]
                        wanted = (order_count(*leafed(web, turned, place, 1)), order_count(*leafed(web, laying, place, 0)))
                        self.same(leaf_pair(web, laying, place), wanted)

    def test_nine_places(self):
        half = factorial(10) // 2
        self.same([leaf_pair(LOOSE, (1,) * 9, 0), leaf_pair(LOOSE, (1,) * 9, 8)], [(half, half)] * 2)
        for place in range(9):
            self.same(leaf_pair(LONG_PATH, (1,) + (0,) * 8, place), (place + 1, 9 - place))
        self.same(leaf_pair(STAR, (0,) * 8 + (1,), 8), (factorial(8), 9 * factorial(8)))
        self.fails(NotClear, {}, leaf_pair, LOOSE, (1,) * 8 + (0,), 0)

    def test_rings(self):
        for web, laying in ((TRIANGLE, (1, 1, 0)), (TADPOLE, (1, 1, 0, 0, 1)), (RING_OF_NINE, (1, 1) + (0,) * 7), (COMPLETE, (1,) * 9)):
            self.fails(NotForest, {}, leaf_pair, web, laying, 0)

    def test_a_ring_that_cannot_be_cleared(self):
        self.fails(NotForest, {}, leaf_pair, TRIANGLE, (0, 0, 0), 0)
        self.fails(NotForest, {}, leaf_pair, RING_OF_NINE, (0,) * 9, 8)

    def test_errors_ahead_of_both(self):
        for place in (3, -1, True, None, "0", (0,)):
            self.fails(BadPlace, {}, leaf_pair, TRIANGLE, (0, 0, 0), place)
            self.fails(BadPlace, {}, leaf_pair, TRIANGLE, (1, 1, 0), place)
            self.fails(BadPlace, {}, leaf_pair, PATH, (1, 1, 0), place)
        self.fails(BadLaying, {"index": 1}, leaf_pair, TRIANGLE, (0, None, 0), 3)
        self.fails(BadLaying, {"index": 2}, leaf_pair, PATH, (1, 1, False), 3)


if __name__ == "__main__":
    unittest.main()
