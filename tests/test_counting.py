import unittest
from itertools import combinations
from math import comb, factorial

import brute
from brute import COMPLETE, LONG_PATH, LOOSE, RING_OF_NINE, SINGLE, STAR
from cointakes.counting import heads_by_count, layings_by_count, most_orders, tree_count, tree_orders
from cointakes.errors import BadCount
from cointakes.rows import greatest_row, rows_by_count
from exact import ExactCase


def trees(many):
    edges = combinations(combinations(range(many), 2), many - 1)
    return [(many, chosen) for chosen in edges if len(brute.parts((many, chosen))) == 1]


class Layings(ExactCase):
    def test_small_webs(self):
        for web in brute.some_webs():
            found = brute.by_laying(web)
            counts = [len(orders) for orders in found.values()]
            self.same(layings_by_count(web), tuple((count, counts.count(count)) for count in sorted(set(counts))))
            most = max(counts)
            self.same(most_orders(web), (most, min(laying for laying in found if len(found[laying]) == most)))
            heads = [sum(laying) for laying, orders in found.items() if orders]
            self.same(heads_by_count(web), tuple(heads.count(k) for k in range(web[0] + 1)))

    def test_one_place(self):
        self.same([layings_by_count(SINGLE), most_orders(SINGLE), heads_by_count(SINGLE)], [((0, 1), (1, 1)), (1, (1,)), (0, 1)])

    def test_nine_places(self):
        self.same(layings_by_count(LOOSE), ((0, 511), (factorial(9), 1)))
        self.same([most_orders(LOOSE), heads_by_count(LOOSE)], [(factorial(9), (1,) * 9), (0,) * 9 + (1,)])
        self.same(layings_by_count(COMPLETE), ((0, 386), (2880, 126)))
        self.same([most_orders(COMPLETE), heads_by_count(COMPLETE)], [(2880, (0,) * 4 + (1,) * 5), (0,) * 5 + (126,) + (0,) * 4])
        self.same(layings_by_count(LONG_PATH), rows_by_count(9))
        self.same(most_orders(LONG_PATH), greatest_row(9))
        self.same(heads_by_count(LONG_PATH), tuple(comb(9, k) if k % 2 else 0 for k in range(10)))
        for web in (STAR, RING_OF_NINE, COMPLETE):
            pairs = layings_by_count(web)
            self.same([sum(number for _, number in pairs), sum(count * number for count, number in pairs)], [512, factorial(9)])
            self.same(pairs[-1][0], most_orders(web)[0])

    def test_the_least_of_several(self):
        # The middle goes first or last; if it goes first, the leaves have tails up.
        self.same(most_orders(STAR), (factorial(8), (0,) * 8 + (1,)))
        self.same(most_orders((9, tuple((0, k) for k in range(1, 9)))), (factorial(8), (1,) + (0,) * 8))
        self.same(most_orders((2, ((0, 1),))), (1, (0, 1)))
        self.same(most_orders(brute.TRIANGLE), (2, (0, 1, 1)))


class Trees(ExactCase):
    def test_counts(self):
        self.same([tree_count(many) for many in range(1, 7)], [len(trees(many)) for many in range(1, 7)])
        self.same([tree_count(1), tree_count(2), tree_count(3), tree_count(9)], [1, 1, 3, 9 ** 7])

    def test_orders(self):
        for many in (1, 2, 3, 4, 5):
            self.same(tree_orders(many), max(len(orders) for web in trees(many) for orders in brute.by_laying(web).values()))
        self.same(tree_orders(6), max(most_orders(web)[0] for web in trees(6)))

    def test_wrong_counts(self):
        for value in (0, -1, 10, True, False, None, "3", (3,), [3], 2 ** 70):
            self.fails(BadCount, {}, tree_count, value)
        for value in (0, -1, 7, 9, True, False, None, "3", (3,), [3], 2 ** 70):
            self.fails(BadCount, {}, tree_orders, value)


if __name__ == "__main__":
    unittest.main()
