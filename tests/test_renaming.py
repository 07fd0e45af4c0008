import unittest
from itertools import combinations, permutations
from math import factorial

import brute
from brute import COMPLETE, LONG_PATH, LOOSE, PATH, RING_OF_NINE, SINGLE, STAR, TRIANGLE
from cointakes.errors import BadPair
from cointakes.renaming import are_alike, least_form, orders_alike, places_alike, renamings
from exact import ExactCase

THREE_TRIANGLES = (9, ((0, 1), (0, 2), (1, 2), (3, 4), (3, 5), (4, 5), (6, 7), (6, 8), (7, 8)))
GRID = (9, tuple((a, b) for a, b in combinations(range(9), 2) if (b == a + 1 and b % 3) or b == a + 3))


def renamed(web, laying, names):
    """The web and the laying whose place names[k] is what k was."""
    edges = tuple(sorted(tuple(sorted((names[a], names[b]))) for a, b in web[1]))
    coins = [None] * web[0]
    for place, name in enumerate(names):
        coins[name] = laying[place]
    return (web[0], edges), tuple(coins)


def all_renamed(web, laying):
    return [(names, renamed(web, laying, names)) for names in permutations(range(web[0]))]


def own_renamings(web, laying):
    return [names for names, pair in all_renamed(web, laying) if pair == (web, laying)]


def some_webs():
    return [web for many in (1, 2, 3) for web in brute.all_webs(many)] + brute.all_webs(4)[::3] + [brute.TADPOLE]


class Renaming(ExactCase):
    def test_any_layings(self):
        for web in some_webs():
            for laying in brute.any_layings(web)[::1 if web[0] < 5 else 11]:
                own = own_renamings(web, laying)
                self.same(renamings(web, laying), len(own))
                alike = {tuple(sorted({names[place] for names in own})) for place in range(web[0])}
                self.same(places_alike(web, laying), tuple(sorted(alike)))

    def test_least_forms(self):
        for web in some_webs():
            for laying in brute.full_layings(web):
                pairs = [pair for _, pair in all_renamed(web, laying)]
                least = min(pairs)
                self.same(least_form(web, laying), least)
                self.same(least_form(*max(pairs)), least)
                self.same(least_form(*least), least)

    def test_least_forms_of_six_places(self):
        for web, laying in ((brute.SPIDER, (1, 0, 0, 1, 0, 1)), (brute.SEVERAL, (1, 1, 0, 0, 1, 0)), (brute.ring_of(6), (1, 0) * 3),
                            ((6, ((0, 1), (2, 3), (4, 5))), (0, 1, 1, 1, 0, 0)), ((6, ()), (1, 0, 1, 0, 0, 1))):
            self.same(least_form(web, laying), min(pair for _, pair in all_renamed(web, laying)))

    def test_orders_alike(self):
        for web in some_webs():
            for laying, orders in brute.by_laying(web).items():
                own = own_renamings(web, laying)
                groups = {min(tuple(names[place] for place in order) for names in own) for order in orders}
                self.same(orders_alike(web, laying), len(groups))

    def test_renamings_times_orders_alike(self):
        for web in some_webs() + [brute.SPIDER, brute.SEVERAL, brute.line(6), brute.ring_of(6)]:
            for laying, orders in brute.by_laying(web).items():
                self.same(renamings(web, laying) * orders_alike(web, laying), len(orders))

    def test_alike(self):
        pairs = [(web, laying) for many in (1, 2, 3) for web in brute.all_webs(many) for laying in brute.full_layings(web)]
        pairs += [(web, laying) for web in brute.all_webs(4)[::9] for laying in brute.full_layings(web)[::3]]
        groups = {pair: {other for _, other in all_renamed(*pair)} for pair in pairs}
        for one in pairs:
            for other in pairs:
                self.same(are_alike(one, other), other in groups[one])

    def test_unlike_sizes(self):
        self.same(are_alike((SINGLE, (1,)), ((2, ()), (1, 1))), False)
        self.same(are_alike((LOOSE, (1,) * 9), ((8, ()), (1,) * 8)), False)
        self.same(are_alike((PATH, (1, 1, 1)), (TRIANGLE, (1, 1, 1))), False)
        self.same(are_alike((LONG_PATH, (0,) * 8 + (1,)), (LONG_PATH, (1,) + (0,) * 8)), True)
        self.same(are_alike((LONG_PATH, (0,) * 8 + (1,)), (LONG_PATH, (0,) * 7 + (1, 0))), False)

    def test_one_place(self):
        self.same([renamings(SINGLE, (None,)), orders_alike(SINGLE, (1,)), orders_alike(SINGLE, (0,))], [1, 1, 0])
        self.same([places_alike(SINGLE, (None,)), least_form(SINGLE, (0,))], [((0,),), (SINGLE, (0,))])

    def test_empty_places(self):
        self.same([renamings(PATH, (1, None, 1)), renamings(PATH, (None, 1, 1)), renamings(PATH, (None,) * 3)], [2, 1, 2])
        self.same(places_alike(PATH, (None, 0, 0)), ((0,), (1,), (2,)))
        self.same(places_alike(TRIANGLE, (None, 0, None)), ((0, 2), (1,)))
        self.same(renamings(LOOSE, (None, 1, 0) * 3), 216)
        self.same(places_alike(LOOSE, (None, 1, 0) * 3), ((0, 3, 6), (1, 4, 7), (2, 5, 8)))

    def test_nine_places(self):
        every = tuple(range(9))
        up = (1,) * 9
        for web, count, alike in (
            (LOOSE, factorial(9), (every,)), (COMPLETE, factorial(9), (every,)), (STAR, factorial(8), (every[:8], (8,))),
            (RING_OF_NINE, 18, (every,)), (LONG_PATH, 2, ((0, 8), (1, 7), (2, 6), (3, 5), (4,))),
            (THREE_TRIANGLES, 6 * 216, (every,)), (GRID, 8, ((0, 2, 6, 8), (1, 3, 5, 7), (4,))),
        ):
            self.same([renamings(web, up), places_alike(web, up)], [count, alike])
            self.same(renamings(web, (None,) * 9), count)
        self.same(renamings(GRID, (1, 0, 0, 0, 0, 0, 0, 0, 1)), 4)
        self.same(orders_alike(LOOSE, up), 1)
        self.same(orders_alike(COMPLETE, up), 0)
        self.same(orders_alike(COMPLETE, (1, 0) * 4 + (1,)), 1)

    def test_least_forms_of_nine_places(self):
        self.same(least_form(LOOSE, (1, 0) * 4 + (1,)), (LOOSE, (0,) * 4 + (1,) * 5))
        self.same(least_form(COMPLETE, (1, 0) * 4 + (1,)), (COMPLETE, (0,) * 4 + (1,) * 5))
        star = (9, tuple((0, k) for k in range(1, 9)))
        self.same(least_form(STAR, (1, 0) * 4 + (1,)), (star, (1,) + (0,) * 4 + (1,) * 4))
        self.same(least_form(STAR, (1, 0) * 4 + (0,)), (star, (0,) * 5 + (1,) * 4))
        for names in ((3, 1, 4, 0, 5, 8, 2, 6, 7), (8, 7, 6, 5, 4, 3, 2, 1, 0), (1, 0, 3, 2, 5, 4, 7, 6, 8)):
            for web in (GRID, THREE_TRIANGLES, RING_OF_NINE, LONG_PATH):
                one = (web, (1, 0, 0, 1, 1, 0, 1, 0, 0))
                self.same(least_form(*renamed(*one, names)), least_form(*one))
                self.same(are_alike(one, renamed(*one, names)), True)

    def test_pairs_that_are_none(self):
        right = (PATH, (1, 1, 1))
        for wrong in ((PATH, (1, None, 1)), (PATH, (1, 1)), ((3, ((1, 0),)), (1, 1, 1)), (PATH, (1, 1, 1), 0), [PATH, (1, 1, 1)], (PATH,)):
            self.fails(BadPair, {}, are_alike, wrong, right)
            self.fails(BadPair, {}, are_alike, right, wrong)
            self.fails(BadPair, {}, are_alike, wrong, wrong)


if __name__ == "__main__":
    unittest.main()
