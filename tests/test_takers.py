import unittest
from fractions import Fraction
from math import factorial

import brute
from brute import COMPLETE, LONG_PATH, LOOSE, PATH, SINGLE, STAR, TRIANGLE
from cointakes.takers import clear_chance, last_chances, left_chances, mean_left, place_chance, take_chance, weighted_clear
from exact import ExactCase

WEIGHTS = ((1, 100, 7, 7, 50, 3), (5, 4, 3, 2, 1, 6), (100,) * 6, (2, 1, 1, 3, 99, 100))
UP = (1, 1, 1)


def plays(web, laying, weights):
    """The pairs (places, chance) of all plays up to the end, take by take."""
    going = [((), laying, Fraction(1))]
    ended = []
    while going:
        places, coins, chance = going.pop()
        heads = [k for k in range(web[0]) if coins[k] == 1]
        if not heads:
            ended.append((places, chance))
        for k in heads:
            part = Fraction(weights[k], sum(weights[other] for other in heads))
            going.append(((*places, k), brute.take(web, coins, k), chance * part))
    return ended


def pair(value):
    return value.numerator, value.denominator


def total(chances):
    return pair(sum(chances, Fraction(0)))


class Takers(ExactCase):
    def check(self, web, laying):
        many = web[0]
        ended = plays(web, laying, (1,) * many)
        self.same(clear_chance(web, laying), total(chance for places, chance in ended if len(places) == many))
        left = tuple(total(chance for places, chance in ended if many - len(places) == k) for k in range(many + 1))
        self.same(left_chances(web, laying), left)
        self.same(mean_left(web, laying), total(chance * (many - len(places)) for places, chance in ended))
        lasts = sorted({tuple(sorted(places)) for places, _ in ended})
        wanted = tuple((state, total(c for places, c in ended if tuple(sorted(places)) == state)) for state in lasts)
        self.same(last_chances(web, laying), wanted)
        for place in range(many):
            taken = total(chance for places, chance in ended if place in places)
            self.same(place_chance(web, laying, place), taken)
        chances = dict(ended)
        for order in brute.orders_of(web):
            self.same(take_chance(web, laying, order), pair(chances.get(order, Fraction(0))))

    def test_small_webs(self):
        for web in brute.small_webs() + [brute.TADPOLE]:
            for laying in brute.full_layings(web):
                self.check(web, laying)

    def test_weights(self):
        for number, web in enumerate(brute.some_webs()):
            for laying in brute.full_layings(web):
                weights = WEIGHTS[number % len(WEIGHTS)][:web[0]]
                ended = plays(web, laying, weights) if web[0] < 6 or sum(laying) < 3 else None
                if ended is not None:
                    wanted = total(chance for places, chance in ended if len(places) == web[0])
                    self.same(weighted_clear(web, laying, weights), wanted)

    def test_weights_that_are_alike(self):
        for web in brute.some_webs():
            for laying in brute.full_layings(web):
                self.same(weighted_clear(web, laying, (100,) * web[0]), clear_chance(web, laying))
                self.same(weighted_clear(web, laying, (1,) * web[0]), clear_chance(web, laying))

    def test_least_and_greatest_weight(self):
        self.same(weighted_clear(PATH, UP, (1, 100, 1)), (1, 51))
        self.same(weighted_clear(PATH, UP, (100, 1, 100)), (200, 201))

    def test_one_place(self):
        self.same([clear_chance(SINGLE, (1,)), clear_chance(SINGLE, (0,))], [(1, 1), (0, 1)])
        self.same([left_chances(SINGLE, (1,)), left_chances(SINGLE, (0,))], [((1, 1), (0, 1)), ((0, 1), (1, 1))])
        self.same([mean_left(SINGLE, (1,)), mean_left(SINGLE, (0,))], [(0, 1), (1, 1)])
        self.same([last_chances(SINGLE, (1,)), last_chances(SINGLE, (0,))], [(((0,), (1, 1)),), (((), (1, 1)),)])
        self.same([take_chance(SINGLE, (1,), (0,)), take_chance(SINGLE, (0,), (0,))], [(1, 1), (0, 1)])
        self.same([place_chance(SINGLE, (1,), 0), place_chance(SINGLE, (0,), 0)], [(1, 1), (0, 1)])
        self.same(weighted_clear(SINGLE, (1,), (100,)), (1, 1))

    def test_nothing_to_take(self):
        self.same(left_chances(TRIANGLE, (0, 0, 0)), ((0, 1), (0, 1), (0, 1), (1, 1)))
        self.same(last_chances(TRIANGLE, (0, 0, 0)), (((), (1, 1)),))
        self.same([mean_left(TRIANGLE, (0, 0, 0)), weighted_clear(TRIANGLE, (0, 0, 0), UP)], [(3, 1), (0, 1)])

    def test_nine_places(self):
        self.same(clear_chance(LOOSE, (1,) * 9), (1, 1))
        self.same(take_chance(LOOSE, (1,) * 9, (8, 0, 7, 1, 6, 2, 5, 3, 4)), (1, factorial(9)))
        self.same(mean_left(LOOSE, (1,) * 8 + (0,)), (1, 1))
        self.same(last_chances(LOOSE, (1, 0) * 4 + (1,)), (((0, 2, 4, 6, 8), (1, 1)),))
        # All leaves have to be taken ahead of the middle, or an even number of them is left with tails up.
        self.same(clear_chance(STAR, (0,) * 8 + (1,)), (1, 1))
        self.same(left_chances(COMPLETE, (1,) + (0,) * 8), ((0, 1),) * 7 + ((1, 1), (0, 1), (0, 1)))
        self.same(take_chance(LONG_PATH, (1,) + (0,) * 8, tuple(range(9))), (1, 1))
        self.same(place_chance(COMPLETE, (1,) + (0,) * 8, 3), (1, 8))

    def test_the_sum_of_all_chances(self):
        for web, laying in ((STAR, (1,) * 9), (brute.RING_OF_NINE, (1, 1, 0) * 3), (COMPLETE, (1, 0) * 4 + (0,))):
            self.same(total(Fraction(*chance) for chance in left_chances(web, laying)), (1, 1))
            self.same(total(Fraction(*chance) for _, chance in last_chances(web, laying)), (1, 1))
            self.same(clear_chance(web, laying), left_chances(web, laying)[0])


if __name__ == "__main__":
    unittest.main()
