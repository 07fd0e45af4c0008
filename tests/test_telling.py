import unittest
from itertools import permutations
from math import factorial

import brute
from brute import COMPLETE, LONG_PATH, LOOSE, PATH, SINGLE, STAR, TRIANGLE
from cointakes.errors import BadPlace, BadTold
from cointakes.telling import shows_third, third_order, told_firsts, told_laying
from exact import ExactCase

ODD = (
    None, True, False, 0, 1, "", "201", (), [], {}, [2, 0, 1], (2, 0), (2, 0, 1, 1), (2, 0, 1, 3), (2, 0, 3), (2, False, 1),
    (2, 0, True), (2, 0, None), ("2", "0", "1"), ((2, 0, 1),), (0, 2, 1), (0, 1, 2), (1, 0, 2), {2: 0}, (2, 0, (1,)),
    (2, 0, []), (2, 0, 2 ** 70), (-1, 0, 1),
)


class Telling(ExactCase):
    def check(self, web, told, by_laying):
        clear = [laying for laying, orders in by_laying.items() if all(order in orders for order in told)]
        self.assertLessEqual(len(clear), 1)
        self.same(told_laying(web, told), clear[0] if clear else None)
        fresh = [order for order in by_laying[clear[0]] if order not in told] if clear else []
        third = third_order(web, told)
        self.same(third is None, not fresh)
        self.assertTrue(third is None or third in fresh)
        self.same(shows_third(web, told, third), True)
        self.same(shows_third(web, told, None), not fresh)
        for value in brute.orders_of(web):
            self.same(shows_third(web, told, value), value in fresh)

    def test_one_or_two_told_orders(self):
        for web in brute.all_webs(1) + brute.all_webs(2) + brute.all_webs(3):
            found = brute.by_laying(web)
            orders = brute.orders_of(web)
            for k, one in enumerate(orders):
                self.check(web, (one,), found)
                for other in orders[k + 1:]:
                    self.check(web, (one, other), found)

    def test_all_orders_of_a_laying_told(self):
        for web in brute.all_webs(4)[::3] + [brute.TADPOLE]:
            found = brute.by_laying(web)
            for orders in found.values():
                for told in (orders[:1], orders[-2:], orders[:12], orders[1:12], orders[::2][:12], orders[:-1][-12:]):
                    if told:
                        self.check(web, tuple(told), found)

    def test_twelve_told_orders(self):
        told = tuple(permutations(range(9)))[:12]
        self.same(told_laying(LOOSE, told), (1,) * 9)
        third = third_order(LOOSE, told)
        self.assertNotIn(third, told)
        self.same(shows_third(LOOSE, told, third), True)
        self.same(shows_third(LOOSE, told, told[11]), False)
        self.same(shows_third(LOOSE, told, None), False)
        self.same(told_laying(COMPLETE, told), None)
        self.same([third_order(COMPLETE, told), shows_third(COMPLETE, told, None)], [None, True])
        self.same(shows_third(COMPLETE, told, told[0][::-1]), False)

    def test_wrong_told_orders(self):
        every = tuple(permutations(range(9)))[:13]
        self.fails(BadTold, {}, told_laying, LOOSE, every)
        self.fails(BadTold, {}, third_order, LOOSE, every[:12][::-1])
        self.fails(BadTold, {}, shows_third, LOOSE, every[:3] + every[2:5], None)
        self.fails(BadTold, {}, told_laying, SINGLE, ((0,), (0,)))

    def test_one_place(self):
        self.same([told_laying(SINGLE, ((0,),)), third_order(SINGLE, ((0,),)), shows_third(SINGLE, ((0,),), None)], [(1,), None, True])
        self.same(shows_third(SINGLE, ((0,),), (0,)), False)

    def test_orders_told_of_unlike_layings(self):
        told = ((0, 1, 2), (0, 2, 1))
        self.same([told_laying(PATH, told), third_order(PATH, told), shows_third(PATH, told, None)], [None, None, True])
        for value in brute.orders_of(PATH):
            self.same(shows_third(PATH, told, value), False)

    def test_odd_values_are_judged(self):
        self.same(shows_third(PATH, ((0, 2, 1),), (2, 0, 1)), True)
        for value in ODD:
            before = repr(value)
            self.same(shows_third(PATH, ((0, 2, 1),), value), False, before)
            self.same(shows_third(PATH, ((0, 2, 1), (2, 0, 1)), value), value is None, before)
            self.assertEqual(repr(value), before)


class Firsts(ExactCase):
    def test_small_webs(self):
        for web in brute.small_webs():
            for laying, orders in brute.by_laying(web).items():
                for size in range(web[0] + 1):
                    for firsts in permutations(range(web[0]), size):
                        wanted = sum(order[:size] == firsts for order in orders)
                        self.same(told_firsts(web, laying, firsts), wanted)

    def test_none_and_all(self):
        self.same([told_firsts(SINGLE, (1,), ()), told_firsts(SINGLE, (1,), (0,)), told_firsts(SINGLE, (0,), ())], [1, 1, 0])
        self.same([told_firsts(SINGLE, (0,), (0,)), told_firsts(TRIANGLE, (0, 0, 0), ())], [0, 0])
        self.same(told_firsts(LOOSE, (1,) * 9, ()), factorial(9))
        self.same(told_firsts(LOOSE, (1,) * 9, (8, 3, 0)), factorial(6))
        self.same(told_firsts(LONG_PATH, (1,) + (0,) * 8, tuple(range(9))), 1)
        self.same(told_firsts(STAR, (1,) * 9, (8,)), 0)

    def test_what_is_taken_in_no_such_order(self):
        # The places (1, 0) can be taken in the order 0, 1 alone.
        self.same([told_firsts(PATH, (1, 0, 0), (0, 1)), told_firsts(PATH, (1, 0, 0), (1, 0))], [1, 0])

    def test_the_same_place_twice(self):
        self.fails(BadPlace, {}, told_firsts, PATH, (1, 1, 1), (0, 0))
        self.fails(BadPlace, {}, told_firsts, PATH, (1, 1, 0), (0, 1, 2, 0))
        self.fails(BadPlace, {}, told_firsts, SINGLE, (0,), (0, 0))


if __name__ == "__main__":
    unittest.main()
