import unittest

import brute
from brute import COMPLETE, LONG_PATH, LOOSE, OF_2000, OF_2001, PATH, SINGLE, STAR, TRIANGLE
from cointakes.errors import BadLaying, BadOrder, TooMany
from cointakes.orders import all_orders, order_at
from cointakes.swapping import beside, order_parts, same_laying, swaps, turned_pairs
from exact import ExactCase


def exchanged(order):
    return [order[:k] + (order[k + 1], order[k]) + order[k + 2:] for k in range(len(order) - 1)]


def steps_from(order, orders):
    """For each order that exchanges lead to, through given orders alone, the least number of them."""
    found = {order: 0}
    fresh = [order]
    for one in fresh:
        for other in exchanged(one):
            if other in orders and other not in found:
                found[other] = found[one] + 1
                fresh.append(other)
    return found


class Swapping(ExactCase):
    def test_small_webs(self):
        for web in brute.small_webs():
            for laying, orders in brute.by_laying(web).items():
                self.check(web, laying, orders, orders)

    def test_larger_webs(self):
        for web in (brute.TADPOLE, brute.SPIDER, brute.SEVERAL):
            for laying, orders in list(brute.by_laying(web).items())[::3]:
                self.check(web, laying, orders, orders[::17])

    def check(self, web, laying, orders, starts):
        known = set(orders)
        sizes = {}
        for one in starts:
            found = steps_from(one, known)
            self.same(beside(web, one), tuple(sorted(other for other in exchanged(one) if other in known)))
            for other in orders[::max(1, len(orders) // 24)]:
                self.same(swaps(web, one, other), found.get(other))
                self.same(same_laying(web, one, other), True)
        for one in orders:
            if one not in sizes:
                part = steps_from(one, known)
                sizes.update({other: (min(part), len(part)) for other in part})
        self.same(order_parts(web, laying), tuple(sorted(size for _, size in set(sizes.values()))))

    def test_orders_of_unlike_layings(self):
        for web in brute.all_webs(3) + brute.all_webs(4)[::7]:
            found = brute.by_laying(web)
            laying_of = {order: laying for laying, orders in found.items() for order in orders}
            for one in laying_of:
                for other in laying_of:
                    same = laying_of[one] == laying_of[other]
                    self.same(same_laying(web, one, other), same)
                    if not same:
                        self.same(swaps(web, one, other), None)

    def test_turned_pairs(self):
        for many in (1, 2, 3, 4):
            for one in brute.orders_of((many, ())):
                for other in brute.orders_of((many, ())):
                    wanted = sum((one.index(a) < one.index(b)) != (other.index(a) < other.index(b))
                                 for a in range(many) for b in range(a))
                    self.same(turned_pairs((many, ()), one, other), wanted)
                    self.same(turned_pairs(brute.line(many), one, other), wanted)
        self.same(turned_pairs(COMPLETE, tuple(range(9)), tuple(range(9))[::-1]), 36)

    def test_the_same_order_twice(self):
        for web in (SINGLE, PATH, TRIANGLE):
            order = tuple(range(web[0]))
            self.same([swaps(web, order, order), same_laying(web, order, order), turned_pairs(web, order, order)], [0, True, 0])

    def test_one_laying_in_several_parts(self):
        self.same(order_parts(TRIANGLE, (1, 0, 1)), (1, 1))
        self.same(swaps(TRIANGLE, (0, 1, 2), (2, 1, 0)), None)
        self.same(same_laying(TRIANGLE, (0, 1, 2), (2, 1, 0)), True)
        self.same(beside(TRIANGLE, (0, 1, 2)), ())
        self.same(beside(SINGLE, (0,)), ())

    def test_what_cannot_be_cleared_has_no_parts(self):
        self.same([order_parts(TRIANGLE, (0, 0, 0)), order_parts(SINGLE, (0,)), order_parts(SINGLE, (1,))], [(), (), (1,)])
        self.same(order_parts(LOOSE, (0,) * 9), ())

    def test_as_many_as_may_be(self):
        self.same(sum(order_parts(*OF_2000)), 2000)
        orders = all_orders(*OF_2000)
        found = steps_from(orders[0], set(orders))
        for other in orders[::37] + orders[-1:]:
            self.same(swaps(OF_2000[0], orders[0], other), found.get(other))

    def test_too_many(self):
        self.fails(TooMany, {"most": 2000}, order_parts, *OF_2001)
        self.fails(TooMany, {"most": 2000}, order_parts, LOOSE, (1,) * 9)
        one, other = order_at(*OF_2001, 0), order_at(*OF_2001, 2000)
        self.fails(TooMany, {"most": 2000}, swaps, OF_2001[0], one, other)
        self.fails(TooMany, {"most": 2000}, swaps, OF_2001[0], one, one)
        # Two orders of one laying, of 126 times 5! times 4!, with no way between them.
        one, other = (0, 1, 2, 3, 4, 5, 6, 7, 8), (2, 1, 0, 3, 4, 5, 6, 7, 8)
        self.same(same_laying(COMPLETE, one, other), True)
        self.fails(TooMany, {"most": 2000}, swaps, COMPLETE, one, other)

    def test_unlike_layings_are_never_too_many(self):
        one, other = (0, 1, 2, 3, 4, 5, 6, 7, 8), (8, 0, 1, 2, 3, 4, 5, 6, 7)
        self.same(swaps(STAR, one, other), None)
        self.same(swaps(COMPLETE, one, (1, 0, 2, 3, 4, 5, 6, 7, 8)), None)

    def test_errors_ahead_of_too_many(self):
        every = tuple(range(9))
        self.fails(BadOrder, {}, swaps, LOOSE, every, every[1:])
        self.fails(BadOrder, {}, swaps, LOOSE, every[:-1] + (True,), every)
        self.fails(BadLaying, {"index": 8}, order_parts, LOOSE, (1,) * 8 + (None,))

    def test_a_forest_has_one_part(self):
        self.same(order_parts(LONG_PATH, (1,) + (0,) * 8), (1,))
        web = brute.line(7)
        for laying, orders in brute.by_laying(web).items():
            self.same(order_parts(web, laying), (len(orders),) if orders else ())
            if orders:
                self.same(swaps(web, orders[0], orders[-1]), turned_pairs(web, orders[0], orders[-1]))


if __name__ == "__main__":
    unittest.main()
