import unittest
from time import monotonic

import brute
from brute import ring_of
from cointakes.errors import BadIndex, BadOrder, BadRing
from cointakes.hands import worth
from cointakes.lasts import fewest_left, most_left
from cointakes.longrings import ring_at, ring_chance, ring_left, ring_mean_left, ring_number, ring_worth
from cointakes.orders import order_at, order_count
from cointakes.rings import ring_count
from cointakes.takers import clear_chance, mean_left
from exact import ExactCase

UP = (1,) * 20
MIXED = (1, 1, 0, 1, 0, 0, 0, 1, 1, 1, 0, 0, 1, 0, 0, 1, 0, 0, 0, 0)
TWO = (1,) + (0,) * 10 + (1,) + (0,) * 8
LONG = (UP, (0,) * 20, (1, 0) * 10, MIXED, TWO, (1,) * 19 + (0,))


class LongRings(ExactCase):
    def check_web(self, ring):
        web = ring_of(len(ring))
        self.same(ring_left(ring), (fewest_left(web, ring)[0], most_left(web, ring)[0]))
        self.same(ring_worth(ring), worth(web, ring))
        self.same(ring_chance(ring), clear_chance(web, ring))
        self.same(ring_mean_left(ring), mean_left(web, ring))

    def test_all_rings_that_are_webs_too(self):
        for many in (3, 4, 5, 6, 7):
            for ring in brute.full_layings(ring_of(many)):
                self.check_web(ring)
        for ring in brute.full_layings(ring_of(9))[::17] + brute.full_layings(ring_of(8))[::7]:
            self.check_web(ring)

    def test_without_a_head(self):
        for many in (3, 20):
            ring = (0,) * many
            self.same([ring_left(ring), ring_worth(ring)], [(many, many), 0])
            self.same([ring_chance(ring), ring_mean_left(ring)], [(0, 1), (many, 1)])

    def test_heads_alone(self):
        self.same([ring_left((1, 1, 1)), ring_worth((1, 1, 1))], [(2, 2), 1])
        self.same([ring_chance((1, 1, 1)), ring_mean_left((1, 1, 1))], [(0, 1), (2, 1)])
        self.same(ring_left(UP)[0], 0)
        self.same(ring_chance((1,) * 19), (0, 1))

    def test_two_heads_side_by_side(self):
        # Neighbours: the row that is left has a single head, so that all coins are taken at last.
        ring = (1, 1) + (0,) * 18
        self.same([ring_left(ring), ring_chance(ring), ring_mean_left(ring), ring_worth(ring)], [(0, 0), (1, 1), (0, 1), 0])
        ring = (1,) + (0,) * 18 + (1,)
        self.same([ring_left(ring), ring_chance(ring), ring_mean_left(ring), ring_worth(ring)], [(0, 0), (1, 1), (0, 1), 0])

    def test_turned_and_mirrored_rings(self):
        for ring in (MIXED, TWO):
            for other in (ring[7:] + ring[:7], ring[::-1], ring[19:] + ring[:19]):
                self.same([ring_left(other), ring_worth(other), ring_chance(other), ring_mean_left(other)],
                          [ring_left(ring), ring_worth(ring), ring_chance(ring), ring_mean_left(ring)])

    def test_twenty_coins_come_soon(self):
        for function in (ring_left, ring_worth, ring_chance, ring_mean_left):
            for ring in LONG:
                start = monotonic()
                function(ring)
                self.assertLess(monotonic() - start, 5, function.__name__)
        for ring in LONG:
            start = monotonic()
            if ring_count(ring):
                order = ring_at(ring, ring_count(ring) - 1)
                self.same(ring_number(ring, order), ring_count(ring) - 1)
            self.assertLess(monotonic() - start, 5)


class Numbers(ExactCase):
    def test_all_small_rings(self):
        for many in (3, 4, 5, 6):
            for ring, orders in brute.by_laying(ring_of(many)).items():
                self.same([ring_at(ring, index) for index in range(len(orders))], orders)
                self.same([ring_number(ring, order) for order in orders], list(range(len(orders))))
                self.fails(BadIndex, {}, ring_at, ring, len(orders))
                self.fails(BadIndex, {}, ring_at, ring, -1)

    def test_orders_that_do_not_clear(self):
        for many in (3, 4, 5):
            for ring, orders in brute.by_laying(ring_of(many)).items():
                for order in brute.orders_of(ring_of(many)):
                    if order not in orders:
                        self.same(ring_number(ring, order), None)

    def test_nine_coins(self):
        for ring in brute.full_layings(ring_of(9))[::45]:
            count = order_count(ring_of(9), ring)
            self.same(ring_count(ring), count)
            for index in {0, count // 2, count - 1} if count else ():
                order = order_at(ring_of(9), ring, index)
                self.same([ring_at(ring, index), ring_number(ring, order)], [order, index])

    def test_twenty_coins(self):
        for ring in (UP, (1, 0) * 10, MIXED, TWO):
            count = ring_count(ring)
            last = None
            for index in sorted({0, 1, count // 3, count // 2, count - 2, count - 1}):
                order = ring_at(ring, index)
                self.same(ring_number(ring, order), index)
                self.assertIsNotNone(brute.play(ring_of(20), ring, order))
                self.assertTrue(last is None or last < order)
                last = order
            self.fails(BadIndex, {}, ring_at, ring, count)
        self.same(ring_number(UP, tuple(range(20))), None)

    def test_rings_that_cannot_be_cleared(self):
        for ring in ((0, 0, 0), (1, 1, 1), (0,) * 20, (1,) * 19):
            self.fails(BadIndex, {}, ring_at, ring, 0)
            self.same(ring_number(ring, tuple(range(len(ring)))), None)

    def test_order_of_another_length(self):
        self.fails(BadOrder, {}, ring_number, UP, tuple(range(19)))
        self.fails(BadOrder, {}, ring_number, UP, tuple(range(1, 21)))
        self.fails(BadOrder, {}, ring_number, (0, 0, 0), (0, 1, 2, 2))

    def test_rings_that_are_none(self):
        for function in (ring_left, ring_worth, ring_chance, ring_mean_left):
            for ring in ((1, 1), (1,) * 21, (1, 1, True), [1, 1, 0], (1, 1, None), None, "110"):
                self.fails(BadRing, {}, function, ring)


if __name__ == "__main__":
    unittest.main()
