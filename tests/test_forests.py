import unittest
from itertools import product
from math import factorial

import brute
from brute import COMPLETE, LONG_PATH, LOOSE, PATH, RING_OF_NINE, SEVERAL, SINGLE, SPIDER, STAR, TADPOLE, TRIANGLE
from cointakes import errors
from cointakes.forests import edge_sides, first_takes, forest_count, last_takes, laying_of_way, odd_way
from cointakes.orders import order_count
from exact import ExactCase

FORESTS = [web for web in brute.some_webs() if not brute.has_ring(web)]
BUSH = (9, ((0, 1), (0, 5), (1, 2), (1, 3), (3, 4), (5, 6), (5, 7), (7, 8)))
GROVE = (9, ((0, 4), (1, 5), (2, 4), (3, 8), (4, 7)))
RINGS = (TRIANGLE, TADPOLE, RING_OF_NINE, COMPLETE, brute.SQUARE, (4, ((1, 2), (1, 3), (2, 3))))


class Forests(ExactCase):
    def test_small_forests(self):
        for web in FORESTS:
            for laying, orders in brute.by_laying(web).items():
                ways = {brute.way(web, order) for order in orders}
                self.assertLessEqual(len(ways), 1)
                self.same(odd_way(web, laying), ways.pop() if ways else None)
                self.same(first_takes(web, laying), tuple(sorted({order[0] for order in orders})))
                self.same(last_takes(web, laying), tuple(sorted({order[-1] for order in orders})))
                self.same(forest_count(web, laying), len(orders))

    def test_clear_exactly_if_each_part_has_odd_heads(self):
        self.same(odd_way(SEVERAL, (1, 1, 1, 0, 1, 1)), (0, 0, 0))
        self.same(odd_way(SEVERAL, (1, 1, 1, 1, 1, 1)), None)
        self.same(odd_way(SEVERAL, (1, 1, 1, 0, 1, 0)), None)
        self.same(odd_way(LOOSE, (1,) * 9), ())
        self.same(odd_way(LOOSE, (1,) * 8 + (0,)), None)

    def test_one_place(self):
        self.same([odd_way(SINGLE, (1,)), odd_way(SINGLE, (0,))], [(), None])
        self.same([first_takes(SINGLE, (1,)), first_takes(SINGLE, (0,))], [(0,), ()])
        self.same([last_takes(SINGLE, (1,)), last_takes(SINGLE, (0,))], [(0,), ()])
        self.same([forest_count(SINGLE, (1,)), forest_count(SINGLE, (0,))], [1, 0])
        self.same(laying_of_way(SINGLE, ()), (1,))

    def test_what_cannot_be_cleared(self):
        for laying in ((0, 0, 0), (1, 1, 0), (0, 1, 1)):
            self.same(odd_way(PATH, laying), None)
            self.same([first_takes(PATH, laying), last_takes(PATH, laying), forest_count(PATH, laying)], [(), (), 0])

    def test_laying_of_way(self):
        for web in FORESTS:
            found = brute.by_laying(web)
            wanted = {brute.way(web, order): laying for laying in found for order in found[laying]}
            ways = list(product((0, 1), repeat=len(web[1])))
            self.assertEqual(set(ways), set(wanted))
            for way in ways:
                self.same(laying_of_way(web, way), wanted[way])

    def test_laying_of_way_of_nine_places(self):
        self.same(laying_of_way(LONG_PATH, (0,) * 8), (1,) + (0,) * 8)
        self.same(laying_of_way(LONG_PATH, (1,) * 8), (0,) * 8 + (1,))
        self.same(laying_of_way(STAR, (0,) * 8), (1,) * 9)
        self.same(laying_of_way(LOOSE, ()), (1,) * 9)
        for web in (LONG_PATH, BUSH, GROVE):
            for way in list(product((0, 1), repeat=len(web[1])))[::7]:
                self.same(odd_way(web, laying_of_way(web, way)), way)

    def test_count_of_nine_places(self):
        self.same(forest_count(LOOSE, (1,) * 9), factorial(9))
        self.same(forest_count(STAR, (1,) * 9), factorial(8))
        self.same(forest_count(LONG_PATH, (0,) * 8 + (1,)), 1)
        for web in (LONG_PATH, STAR, BUSH, GROVE):
            for laying in brute.full_layings(web)[::5]:
                self.same(forest_count(web, laying), order_count(web, laying))

    def test_edge_sides(self):
        self.same(edge_sides(PATH, (0, 0, 1), 0), (0, 1))
        self.same(edge_sides(LONG_PATH, (1,) * 9, 7), (8, 1))
        self.same(edge_sides(SEVERAL, (1, 1, 1, 1, 1, 1), 1), (1, 2))
        for web in FORESTS:
            for index, (a, b) in enumerate(web[1]):
                parted = brute.parts((web[0], web[1][:index] + web[1][index + 1:]))
                for laying in brute.full_layings(web):
                    sides = [next(part for part in parted if place in part) for place in (a, b)]
                    wanted = tuple(sum(laying[k] for k in side) for side in sides)
                    self.same(edge_sides(web, laying, index), wanted)

    def test_edge_sides_need_an_edge(self):
        self.fails(errors.BadEdge, {}, edge_sides, SINGLE, (1,), 0)
        self.fails(errors.BadEdge, {}, edge_sides, PATH, (1, 1, 1), 2)
        self.fails(errors.BadEdge, {}, edge_sides, PATH, (1, 1, 1), -1)


class Rings(ExactCase):
    def test_no_forest(self):
        for web in RINGS:
            laying = (1,) * web[0]
            for function in (odd_way, first_takes, last_takes, forest_count):
                self.fails(errors.NotForest, {}, function, web, laying)
            self.fails(errors.NotForest, {}, laying_of_way, web, (0,) * len(web[1]))
            self.fails(errors.NotForest, {}, edge_sides, web, laying, 0)

    def test_all_other_errors_come_first(self):
        for web in RINGS:
            laying = (1,) * web[0]
            for function in (odd_way, first_takes, last_takes, forest_count):
                self.fails(errors.BadLaying, {"index": None}, function, web, laying + (1,))
                self.fails(errors.BadLaying, {"index": 0}, function, web, (None,) * web[0])
                self.fails(errors.BadLaying, {"index": 1}, function, web, (1, True) + laying[2:])
            self.fails(errors.BadWay, {}, laying_of_way, web, (0,) * (len(web[1]) - 1))
            self.fails(errors.BadWay, {}, laying_of_way, web, (False,) * len(web[1]))
            self.fails(errors.BadLaying, {"index": 0}, edge_sides, web, (2,) + laying[1:], None)
            self.fails(errors.BadEdge, {}, edge_sides, web, laying, len(web[1]))
            self.fails(errors.BadEdge, {}, edge_sides, web, laying, False)


if __name__ == "__main__":
    unittest.main()
