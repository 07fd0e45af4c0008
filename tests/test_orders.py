import unittest
from math import factorial

import brute
from brute import COMPLETE, LONG_PATH, LOOSE, OF_2000, OF_2001, PATH, RING_OF_NINE, SINGLE, STAR, TRIANGLE
from cointakes.errors import BadIndex, TooMany
from cointakes.orders import (
    all_orders, can_clear, clears, laying_of, next_order, order_at, order_count, order_number,
)
from exact import ExactCase

UP = (1, 1, 1)
STAR_LEAVES_FIRST = (1, 1, 1, 1, 1, 1, 1, 1, 1)


class Orders(ExactCase):
    def test_laying_of(self):
        self.same(laying_of(SINGLE, (0,)), (1,))
        self.same(laying_of(LOOSE, tuple(range(9))), (1,) * 9)
        self.same(laying_of(LONG_PATH, tuple(range(9))), (1,) + (0,) * 8)
        self.same(laying_of(COMPLETE, tuple(range(8, -1, -1))), (1, 0) * 4 + (1,))

    def test_one_place(self):
        self.same([clears(SINGLE, (1,), (0,)), clears(SINGLE, (0,), (0,))], [True, False])
        self.same([order_count(SINGLE, (1,)), order_count(SINGLE, (0,))], [1, 0])
        self.same([all_orders(SINGLE, (1,)), all_orders(SINGLE, (0,))], [[(0,)], []])

    def test_small_webs(self):
        for web in brute.some_webs():
            for laying, orders in brute.by_laying(web).items():
                self.same(order_count(web, laying), len(orders))
                self.same(can_clear(web, laying), len(orders) > 0)
                self.same(all_orders(web, laying), orders)

    def test_the_oracle_plays_by_the_rules(self):
        for web in brute.small_webs():
            for laying, orders in brute.by_laying(web).items():
                self.same(brute.clearing(web, laying), orders)

    def test_which_orders_clear(self):
        for web in brute.all_webs(4):
            for laying, orders in brute.by_laying(web).items():
                for order in brute.orders_of(web):
                    self.same(clears(web, laying, order), order in orders)
                for order in orders:
                    self.same(laying_of(web, order), laying)

    def test_counts_over_all_layings(self):
        for web in (brute.SEVERAL, brute.SPIDER, brute.TADPOLE, brute.SQUARE):
            counts = [order_count(web, laying) for laying in brute.full_layings(web)]
            self.same(sum(counts), factorial(web[0]))

    def test_webs_of_nine_places(self):
        self.same(order_count(LOOSE, (1,) * 9), factorial(9))
        self.same(order_count(LOOSE, (1,) * 8 + (0,)), 0)
        self.same(order_count(STAR, STAR_LEAVES_FIRST), factorial(8))
        self.same(order_count(LONG_PATH, (1, 0, 0, 0, 0, 0, 0, 0, 0)), 1)
        self.same(can_clear(RING_OF_NINE, (1,) * 9), False)
        self.same(can_clear(RING_OF_NINE, (1,) * 8 + (0,)), True)

    def test_more_than_two_thousand_orders(self):
        self.fails(TooMany, {"most": 2000}, all_orders, LOOSE, (1,) * 9)
        self.fails(TooMany, {"most": 2000}, all_orders, STAR, STAR_LEAVES_FIRST)
        self.fails(TooMany, {"most": 2000}, all_orders, *OF_2001)

    def test_just_two_thousand_orders_are_not_too_many(self):
        self.same([order_count(*OF_2000), order_count(*OF_2001)], [2000, 2001])
        orders = all_orders(*OF_2000)
        self.same(len(orders), 2000)
        self.same(orders, sorted(set(orders)))
        for number in (0, 1, 1000, 1999):
            self.same(order_at(*OF_2000, number), orders[number])
            self.same(clears(*OF_2000, orders[number]), True)

    def test_returned_lists_are_new(self):
        first = all_orders(PATH, UP)
        first.append("more")
        self.same(all_orders(PATH, UP), [(0, 2, 1), (2, 0, 1)])
        empty = all_orders(PATH, (1, 1, 0))
        empty.append("more")
        self.same(all_orders(PATH, (1, 1, 0)), [])


class Numbers(ExactCase):
    def test_small_webs(self):
        for web in brute.some_webs():
            for laying, orders in brute.by_laying(web).items():
                for number, order in enumerate(orders):
                    self.same(order_number(web, laying, order), number)
                    self.same(order_at(web, laying, number), order)
                self.fails(BadIndex, {}, order_at, web, laying, len(orders))

    def test_orders_that_do_not_clear(self):
        self.same(order_number(PATH, UP, (0, 1, 2)), None)
        self.same(order_number(PATH, UP, (1, 0, 2)), None)
        self.same(order_number(TRIANGLE, (0, 0, 0), (0, 1, 2)), None)
        for web in brute.all_webs(4):
            for laying, orders in brute.by_laying(web).items():
                for order in brute.orders_of(web):
                    if order not in orders:
                        self.same(order_number(web, laying, order), None)

    def test_first_and_last_of_many(self):
        last = tuple(range(8, -1, -1))
        self.same(order_at(LOOSE, (1,) * 9, 0), tuple(range(9)))
        self.same(order_at(LOOSE, (1,) * 9, factorial(9) - 1), last)
        self.same(order_number(LOOSE, (1,) * 9, last), factorial(9) - 1)
        self.fails(BadIndex, {}, order_at, LOOSE, (1,) * 9, factorial(9))
        self.fails(BadIndex, {}, order_at, LOOSE, (1,) * 9, -1)

    def test_no_order_has_a_number(self):
        self.fails(BadIndex, {}, order_at, PATH, (1, 1, 0), 0)

    def test_next_order_of_each_order(self):
        for web in brute.all_webs(4) + [brute.TADPOLE]:
            for laying, orders in brute.by_laying(web).items():
                for order in brute.orders_of(web):
                    wanted = next((other for other in orders if other > order), None)
                    self.same(next_order(web, laying, order), wanted)

    def test_next_order_goes_through_all(self):
        for laying in ((1, 1, 1, 0, 0, 0), (0, 0, 1, 0, 0, 0), (1, 1, 0, 1, 1, 1)):
            found = [order_at(brute.SPIDER, laying, 0)]
            while (order := next_order(brute.SPIDER, laying, found[-1])) is not None:
                found.append(order)
            self.same(found, all_orders(brute.SPIDER, laying))

    def test_next_order_without_any(self):
        self.same(next_order(PATH, (1, 1, 0), (0, 1, 2)), None)
        self.same(next_order(SINGLE, (1,), (0,)), None)
        self.same(next_order(LOOSE, (1,) * 9, tuple(range(8, -1, -1))), None)


if __name__ == "__main__":
    unittest.main()
