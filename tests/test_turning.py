import unittest

import brute
from brute import COMPLETE, LONG_PATH, LOOSE, PATH, SINGLE, TRIANGLE
from cointakes.orders import clears
from cointakes.turning import cheapest_turn, fewest_turned, shows_turn, turned_for
from exact import ExactCase

PRICES = ((3, 1, 4, 1, 5, 9), (0, 0, 0, 0, 0, 0), (7, 7, 7, 7, 7, 7), (1000, 0, 1000, 2, 0, 1), (0, 1000, 1, 1, 1000, 1000))
ODD = (
    None, True, False, 0, 2, "", "2", (), [], {}, (2,), (2, (1, 1, 1), 0), [2, (1, 1, 1)], (2, [1, 1, 1]), (2, "111"),
    (2, None), (None, (1, 1, 1)), ("2", (1, 1, 1)), ((2,), (1, 1, 1)), ([], {}), ({}, []), (True, (1, 1, 1)),
    (2, (1, True, 1)), (2, (True, True, True)), (2, (1, 1)), (2, (1, 1, 1, 1)), (2, (1, 1, None)), (2, (1, 1, "1")),
    (2, (1, 1, 2)), (2, (1, 1, -1)), (2, ((1,), 1, 1)), (2, (1, 1, [])), (2, (1, 1, {})), ((1, 1, 1), 2), (2, (0, 1, 1)),
    (1, (1, 1, 1)), (3, (1, 1, 1)), (0, (1, 1, 0)), (-2, (1, 1, 1)), (2 ** 70, (1, 1, 1)), {0: 2, 1: (1, 1, 1)},
)


def costs(web, laying, prices):
    """For each full laying that can be cleared what it costs to come to it."""
    found = brute.by_laying(web)
    cleared = [target for target in found if found[target]]
    return {target: sum(p for p, a, b in zip(prices, laying, target) if a != b) for target in cleared}


class Turning(ExactCase):
    def test_fewest_turned(self):
        for web in brute.some_webs():
            for laying in brute.full_layings(web):
                self.same(fewest_turned(web, laying), min(costs(web, laying, (1,) * web[0]).values()))

    def test_cheapest_turn(self):
        for web in brute.some_webs():
            for number, laying in enumerate(brute.full_layings(web)):
                prices = PRICES[number % len(PRICES)][:web[0]]
                found = costs(web, laying, prices)
                cost, target = min((cost, target) for target, cost in found.items())
                self.same(cheapest_turn(web, laying, prices), (cost, target))
                for value in brute.full_layings(web):
                    self.same(shows_turn(web, laying, prices, (cost, value)), found.get(value) == cost)
                    self.same(shows_turn(web, laying, prices, (cost + 1, value)), False)

    def test_the_least_of_several_cheapest(self):
        self.same(cheapest_turn(PATH, (1, 1, 0), (1, 1, 1)), (1, (0, 1, 0)))
        self.same(cheapest_turn(PATH, (1, 1, 0), (0, 0, 0)), (0, (0, 0, 1)))
        self.same(cheapest_turn(PATH, (0, 1, 0), (0, 0, 0)), (0, (0, 0, 1)))
        for value in ((0, 0, 1), (0, 1, 0), (1, 0, 0), (1, 1, 1)):
            self.same(shows_turn(PATH, (1, 1, 0), (0, 0, 0), (0, value)), True)

    def test_greatest_prices(self):
        self.same(cheapest_turn(PATH, (1, 1, 0), (1000, 1000, 1000)), (1000, (0, 1, 0)))
        self.same(cheapest_turn(LOOSE, (0,) * 9, (1000,) * 9), (9000, (1,) * 9))

    def test_nothing_to_turn(self):
        self.same([fewest_turned(PATH, (1, 1, 1)), cheapest_turn(PATH, (1, 1, 1), (1, 1, 1))], [0, (0, (1, 1, 1))])
        self.same(shows_turn(PATH, (1, 1, 1), (1, 1, 1), (0, (1, 1, 1))), True)
        self.same(shows_turn(PATH, (1, 1, 1), (1, 1, 1), (False, (1, 1, 1))), False)

    def test_true_is_no_cost(self):
        self.same(shows_turn(SINGLE, (0,), (1,), (1, (1,))), True)
        self.same(shows_turn(SINGLE, (0,), (1,), (True, (1,))), False)
        self.same(shows_turn(SINGLE, (0,), (1,), (1, (True,))), False)

    def test_what_cannot_be_cleared_shows_nothing(self):
        self.same(shows_turn(PATH, (1, 1, 0), (5, 2, 2), (0, (1, 1, 0))), False)
        self.same(shows_turn(TRIANGLE, (0, 0, 0), (1, 1, 1), (0, (0, 0, 0))), False)

    def test_odd_values_are_judged(self):
        self.same(shows_turn(PATH, (1, 1, 0), (5, 2, 2), (2, (1, 0, 0))), True)
        for value in ODD:
            before = repr(value)
            self.same(shows_turn(PATH, (1, 1, 0), (5, 2, 2), value), False, before)
            self.assertEqual(repr(value), before)

    def test_fewest_of_nine_places(self):
        self.same(fewest_turned(LOOSE, (0,) * 9), 9)
        self.same(fewest_turned(LONG_PATH, (0,) * 9), 1)
        self.same(fewest_turned(COMPLETE, (0,) * 9), 5)
        self.same(fewest_turned(COMPLETE, (1,) * 9), 4)

    def test_turned_for(self):
        self.same(turned_for(SINGLE, (0,), (0,)), (0,))
        self.same(turned_for(PATH, (1, 1, 1), (0, 2, 1)), ())
        self.same(turned_for(LOOSE, (0, 1) * 4 + (0,), tuple(range(9))), (0, 2, 4, 6, 8))
        for web in brute.all_webs(4)[::2]:
            for laying in brute.full_layings(web):
                for order in brute.orders_of(web)[::5]:
                    turned = turned_for(web, laying, order)
                    self.same(turned, tuple(sorted(turned)))
                    coins = tuple(1 - c if k in turned else c for k, c in enumerate(laying))
                    self.same(clears(web, coins, order), True)


if __name__ == "__main__":
    unittest.main()
