import unittest
from math import factorial

import brute
from brute import COMPLETE, LONG_PATH, LOOSE, PATH, RING_OF_NINE, SINGLE, STAR, TRIANGLE
from cointakes.errors import BadSight
from cointakes.sights import fit_count, least_fit, next_seen, seen_orders, sure_coins
from exact import ExactCase


def fitting(found, sight):
    """The layings that can be cleared and have these coins, with their orders."""
    return {
        laying: orders for laying, orders in found.items()
        if orders and all(told in (None, coin) for told, coin in zip(sight, laying))
    }


def seen_next(fits, sight):
    free = [place for place, coin in enumerate(sight) if coin is None]
    if not free:
        return None
    return min(free, key=lambda place: (max(sum(fit[place] == coin for fit in fits) for coin in (0, 1)), place))


class Sights(ExactCase):
    def check(self, web, sight, found):
        fits = fitting(found, sight)
        self.same(fit_count(web, sight), len(fits))
        self.same(least_fit(web, sight), min(fits, default=None))
        seen = [{fit[place] for fit in fits} for place in range(web[0])]
        sure = tuple(min(coins) if len(coins) == 1 else None for coins in seen) if fits else None
        self.same(sure_coins(web, sight), sure)
        self.same(next_seen(web, sight), seen_next(fits, sight))
        self.same(seen_orders(web, sight), sum(len(orders) for orders in fits.values()))

    def test_small_webs(self):
        for web in brute.small_webs():
            found = brute.by_laying(web)
            for sight in brute.any_layings(web):
                self.check(web, sight, found)

    def test_larger_webs(self):
        for web in (brute.SPIDER, brute.SEVERAL, brute.TADPOLE, brute.ring_of(6)):
            found = brute.by_laying(web)
            for sight in brute.any_layings(web)[::7]:
                self.check(web, sight, found)

    def test_no_coin_told(self):
        for web in (LOOSE, COMPLETE, STAR, LONG_PATH, RING_OF_NINE):
            self.same(seen_orders(web, (None,) * 9), factorial(9))
        self.same([fit_count(LONG_PATH, (None,) * 9), fit_count(LOOSE, (None,) * 9)], [256, 1])
        self.same(sure_coins(LOOSE, (None,) * 9), (1,) * 9)
        self.same(sure_coins(LONG_PATH, (None,) * 9), (None,) * 9)
        self.same([next_seen(LOOSE, (None,) * 9), next_seen(LONG_PATH, (None,) * 9)], [0, 0])
        self.same(least_fit(STAR, (None,) * 9), (0,) * 8 + (1,))
        self.same(fit_count(COMPLETE, (None,) * 9), 126)

    def test_all_coins_told(self):
        self.same([fit_count(PATH, (1, 1, 1)), least_fit(PATH, (1, 1, 1)), seen_orders(PATH, (1, 1, 1))], [1, (1, 1, 1), 2])
        self.same([sure_coins(PATH, (1, 1, 1)), next_seen(PATH, (1, 1, 1))], [(1, 1, 1), None])
        self.same([fit_count(PATH, (1, 1, 0)), least_fit(PATH, (1, 1, 0)), seen_orders(PATH, (1, 1, 0))], [0, None, 0])
        self.same([sure_coins(PATH, (1, 1, 0)), next_seen(PATH, (1, 1, 0))], [None, None])
        self.same(seen_orders(LOOSE, (1,) * 9), factorial(9))

    def test_coins_that_no_laying_has(self):
        self.same([fit_count(LOOSE, (None,) * 8 + (0,)), least_fit(LOOSE, (None,) * 8 + (0,))], [0, None])
        self.same([sure_coins(LOOSE, (None,) * 8 + (0,)), seen_orders(LOOSE, (None,) * 8 + (0,))], [None, 0])
        # No laying fits whatever is seen, so that the least place is the one.
        self.same([next_seen(LOOSE, (None,) * 8 + (0,)), next_seen(LOOSE, (0, 1, None, 1, 1, 1, 1, 1, None))], [0, 2])
        self.same(fit_count(COMPLETE, (1,) * 6 + (None,) * 3), 0)
        self.same(sure_coins(TRIANGLE, (0, 0, None)), None)

    def test_sure_coins_that_are_not_told(self):
        self.same(sure_coins(TRIANGLE, (0, None, None)), (0, 1, 1))
        self.same(sure_coins(COMPLETE, (1,) * 5 + (None,) * 4), (1,) * 5 + (0,) * 4)
        self.same(sure_coins(COMPLETE, (1,) * 4 + (None,) * 5), (1,) * 4 + (None,) * 5)

    def test_the_last_coin_of_a_tree_is_sure(self):
        for web in (LONG_PATH, STAR, brute.SPIDER):
            for place in range(web[0]):
                sight = tuple(None if k == place else k % 2 for k in range(web[0]))
                heads = sum(coin == 1 for coin in sight)
                wanted = sight[:place] + (1 - heads % 2,) + sight[place + 1:]
                self.same([fit_count(web, sight), sure_coins(web, sight), next_seen(web, sight)], [1, wanted, place])

    def test_next_place_of_several(self):
        # Two edges: the middle coin is up in two of four layings, and so is each other one.
        self.same(next_seen(PATH, (None, None, None)), 0)
        self.same(next_seen((4, ((0, 1), (2, 3))), (None,) * 4), 0)
        self.same(next_seen((4, ((1, 2), (2, 3))), (None,) * 4), 1)
        self.same(next_seen((4, ((1, 2), (2, 3))), (None, 1, None, None)), 2)

    def test_one_place(self):
        self.same([fit_count(SINGLE, (None,)), least_fit(SINGLE, (None,)), sure_coins(SINGLE, (None,))], [1, (1,), (1,)])
        self.same([next_seen(SINGLE, (None,)), next_seen(SINGLE, (0,)), seen_orders(SINGLE, (0,))], [0, None, 0])

    def test_sights_that_are_none(self):
        for function in (fit_count, least_fit, sure_coins, next_seen, seen_orders):
            for sight in ((1, 1), (1, 1, 1, 1), (1, 2, None), (True, 1, 1), [None, None, None], None, "HTH", (None, None, False)):
                self.fails(BadSight, {}, function, PATH, sight)


if __name__ == "__main__":
    unittest.main()
