import unittest
from fractions import Fraction

import brute
from brute import LONG_PATH, LOOSE, PATH, SINGLE, STAR, TRIANGLE
from cointakes.errors import BadPlace
from cointakes.times import ahead_chance, mean_times, time_chances
from exact import ExactCase


def ratio(part, whole):
    value = Fraction(part, whole)
    return value.numerator, value.denominator


class Times(ExactCase):
    def test_small_webs(self):
        for web in brute.some_webs():
            for laying, orders in brute.by_laying(web).items():
                if orders:
                    self.check(web, laying, orders)
                else:
                    self.check_none(web, laying)

    def check(self, web, laying, orders):
        many = web[0]
        times = [[order.index(place) for order in orders] for place in range(many)]
        self.same(mean_times(web, laying), tuple(ratio(sum(row), len(orders)) for row in times))
        for place in range(many):
            wanted = tuple(ratio(times[place].count(time), len(orders)) for time in range(many))
            self.same(time_chances(web, laying, place), wanted)
            for other in range(many):
                if other != place:
                    ahead = sum(one < two for one, two in zip(times[place], times[other]))
                    self.same(ahead_chance(web, laying, place, other), ratio(ahead, len(orders)))

    def check_none(self, web, laying):
        self.same(mean_times(web, laying), None)
        for place in range(web[0]):
            self.same(time_chances(web, laying, place), None)
            for other in range(web[0]):
                if other != place:
                    self.same(ahead_chance(web, laying, place, other), None)

    def test_one_place(self):
        self.same([time_chances(SINGLE, (1,), 0), mean_times(SINGLE, (1,))], [((1, 1),), ((0, 1),)])
        self.same([time_chances(SINGLE, (0,), 0), mean_times(SINGLE, (0,))], [None, None])

    def test_nine_places(self):
        self.same(time_chances(LOOSE, (1,) * 9, 4), ((1, 9),) * 9)
        self.same(mean_times(LOOSE, (1,) * 9), ((4, 1),) * 9)
        self.same(mean_times(STAR, (1,) * 9), ((7, 2),) * 8 + ((8, 1),))
        self.same(mean_times(LONG_PATH, (1,) + (0,) * 8), tuple((time, 1) for time in range(9)))
        self.same(ahead_chance(LOOSE, (1,) * 9, 0, 8), (1, 2))
        self.same(ahead_chance(STAR, (1,) * 9, 8, 0), (0, 1))
        self.same(ahead_chance(STAR, (1,) * 9, 0, 8), (1, 1))

    def test_the_same_place_twice(self):
        self.fails(BadPlace, {}, ahead_chance, PATH, (1, 1, 1), 1, 1)
        self.fails(BadPlace, {}, ahead_chance, TRIANGLE, (0, 0, 0), 0, 0)
        self.fails(BadPlace, {}, ahead_chance, SINGLE, (1,), 0, 0)

    def test_wrong_places_of_what_cannot_be_cleared(self):
        self.fails(BadPlace, {}, time_chances, PATH, (1, 1, 0), 3)
        self.fails(BadPlace, {}, ahead_chance, PATH, (1, 1, 0), 0, True)


if __name__ == "__main__":
    unittest.main()
