import unittest
from itertools import product

import brute
from brute import COMPLETE, LONG_PATH, LOOSE, PATH, RING_OF_NINE, SEVERAL, SINGLE, STAR, TADPOLE, TRIANGLE
from cointakes.errors import BadPlace
from cointakes.webs import heads, is_forest, is_tree, neighbours, parts, taken, taken_all, without
from exact import ExactCase


class Webs(ExactCase):
    def test_neighbours(self):
        self.same(neighbours(PATH, 0), (1,))
        self.same(neighbours(SINGLE, 0), ())
        self.same(neighbours(STAR, 8), (0, 1, 2, 3, 4, 5, 6, 7))
        self.same(neighbours(COMPLETE, 4), (0, 1, 2, 3, 5, 6, 7, 8))
        for web in brute.some_webs():
            for place in range(web[0]):
                self.same(neighbours(web, place), tuple(sorted(brute.near(web, place))))

    def test_parts(self):
        self.same(parts(SINGLE), ((0,),))
        self.same(parts(SEVERAL), ((0, 3), (1, 2, 4), (5,)))
        self.same(parts(LOOSE), tuple((k,) for k in range(9)))
        self.same(parts(COMPLETE), (tuple(range(9)),))
        for web in brute.some_webs():
            self.same(parts(web), brute.parts(web))

    def test_forests_and_trees(self):
        for web, forest, tree in (
            (SINGLE, True, True), (LOOSE, True, False), (LONG_PATH, True, True), (SEVERAL, True, False),
            (TRIANGLE, False, False), (TADPOLE, False, False), (RING_OF_NINE, False, False), (COMPLETE, False, False),
        ):
            self.same(is_forest(web), forest, web)
            self.same(is_tree(web), tree, web)

    def test_all_small_forests_and_trees(self):
        for web in brute.some_webs():
            self.same(is_forest(web), not brute.has_ring(web), web)
            self.same(is_tree(web), not brute.has_ring(web) and len(brute.parts(web)) == 1, web)

    def test_a_ring_with_as_many_edges_as_a_tree(self):
        web = (4, ((0, 1), (0, 2), (1, 2)))
        self.same([is_forest(web), is_tree(web)], [False, False])

    def test_without(self):
        self.same(without(PATH, 1), (2, ()))
        self.same(without(PATH, 2), (2, ((0, 1),)))
        self.same(without(TADPOLE, 1), (4, ((0, 1), (1, 2))))
        self.same(without((2, ()), 1), (1, ()))
        self.same(without(LONG_PATH, 0), (8, tuple((k, k + 1) for k in range(7))))

    def test_without_keeps_all_other_edges(self):
        for web in brute.small_webs()[1:]:
            for place in range(web[0]):
                left = [k for k in range(web[0]) if k != place]
                wanted = [(left.index(a), left.index(b)) for a, b in web[1] if place not in (a, b)]
                self.same(without(web, place), (web[0] - 1, tuple(wanted)))

    def test_without_the_only_place(self):
        self.fails(BadPlace, {}, without, SINGLE, 0)
        self.fails(BadPlace, {}, without, SINGLE, 1)


class Takes(ExactCase):
    def test_heads(self):
        self.same(heads(PATH, (1, 1, 1)), (0, 1, 2))
        self.same(heads(PATH, (None, 0, None)), ())
        self.same(heads(LOOSE, (0, 1, None, 1, 0, 0, 0, None, 1)), (1, 3, 8))

    def test_taken(self):
        self.same(taken(PATH, (1, 1, 1), 1), (0, None, 0))
        self.same(taken(PATH, (None, 1, 1), 1), (None, None, 0))
        self.same(taken(SINGLE, (1,), 0), (None,))
        self.same(taken(STAR, (1, 0, None, 1, 0, 1, 0, 1, 1), 8), (0, 1, None, 0, 1, 0, 1, 0, None))

    def test_taken_needs_a_head_up(self):
        self.fails(BadPlace, {}, taken, PATH, (0, 1, None), 0)
        self.fails(BadPlace, {}, taken, PATH, (0, 1, None), 2)

    def test_all_small_takes(self):
        for web in brute.small_webs():
            for laying in brute.any_layings(web):
                self.same(heads(web, laying), tuple(k for k in range(web[0]) if laying[k] == 1))
                for place in range(web[0]):
                    if laying[place] == 1:
                        self.same(taken(web, laying, place), brute.take(web, laying, place))
                    else:
                        self.fails(BadPlace, {}, taken, web, laying, place)

    def test_taken_all(self):
        self.same(taken_all(PATH, (1, 1, 1), ()), (1, 1, 1))
        self.same(taken_all(PATH, (1, 1, 1), (0, 2, 1)), (None, None, None))
        self.same(taken_all(PATH, (1, 1, 1), (0, 0)), None)
        self.same(taken_all(PATH, (None, 0, 1), (2, 1)), (None, None, None))
        self.same(taken_all(PATH, (None, 0, 1), (0,)), None)

    def test_all_takes_one_behind_another(self):
        for web in brute.all_webs(3):
            for laying in brute.any_layings(web):
                for size in range(4):
                    for places in product(range(3), repeat=size):
                        self.same(taken_all(web, laying, places), brute.play(web, laying, places))


if __name__ == "__main__":
    unittest.main()
