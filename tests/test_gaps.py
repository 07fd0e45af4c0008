import unittest
from fractions import Fraction

import brute
from brute import LOOSE, PATH, SINGLE, TRIANGLE, line
from cointakes.errors import BadLaying, BadPlace, BadWeb, TooMany
from cointakes.gaps import gap_chances, mean_gap
from exact import ExactCase


def pair(value):
    return value.numerator, value.denominator


class Gaps(ExactCase):
    def check(self, web, laying, orders):
        sizes = []
        for one in range(web[0]):
            for other in range(web[0]):
                if one == other:
                    self.fails(BadPlace, {}, gap_chances, web, laying, one, other)
                    continue
                gaps = [order.index(other) - order.index(one) for order in orders]
                sizes += [abs(gap) for gap in gaps]
                wanted = tuple((gap, pair(Fraction(gaps.count(gap), len(gaps)))) for gap in sorted(set(gaps)))
                self.same(gap_chances(web, laying, one, other), wanted)
        self.same(mean_gap(web, laying), pair(Fraction(sum(sizes), len(sizes))) if sizes else None)

    def test_small_webs(self):
        for web in brute.some_webs():
            for laying, orders in list(brute.by_laying(web).items())[::1 if web[0] < 6 else 5]:
                self.check(web, laying, orders)

    def test_without_any_order(self):
        self.same([gap_chances(PATH, (1, 1, 0), 0, 2), mean_gap(PATH, (1, 1, 0))], [(), None])
        self.same([gap_chances(TRIANGLE, (0, 0, 0), 2, 1), mean_gap(TRIANGLE, (0, 0, 0))], [(), None])

    def test_a_single_place(self):
        self.same([mean_gap(SINGLE, (1,)), mean_gap(SINGLE, (0,))], [None, None])
        self.fails(BadPlace, {}, gap_chances, SINGLE, (1,), 0, 0)

    def test_two_places(self):
        web = (2, ((0, 1),))
        self.same([gap_chances(web, (1, 0), 0, 1), gap_chances(web, (1, 0), 1, 0)], [((1, (1, 1)),), ((-1, (1, 1)),)])
        self.same([mean_gap(web, (1, 0)), mean_gap(web, (1, 1)), mean_gap((2, ()), (1, 1))], [(1, 1), None, (1, 1)])

    def test_seven_places(self):
        loose = (7, ())
        wanted = tuple((gap, pair(Fraction(7 - abs(gap), 42))) for gap in (-6, -5, -4, -3, -2, -1, 1, 2, 3, 4, 5, 6))
        self.same([gap_chances(loose, (1,) * 7, 0, 6), mean_gap(loose, (1,) * 7)], [wanted, (8, 3)])
        self.same(gap_chances(line(7), (1,) + (0,) * 6, 5, 2), ((-3, (1, 1)),))
        self.same([gap_chances(line(7), (0,) * 7, 5, 2), mean_gap(line(7), (0,) * 7)], [(), None])

    def test_eight_places(self):
        for web in ((8, ()), line(8), LOOSE):
            for coin in (0, 1):
                laying = (coin,) * web[0]
                self.fails(TooMany, {"most": 7}, gap_chances, web, laying, 0, 1)
                self.fails(TooMany, {"most": 7}, gap_chances, web, laying, web[0] - 1, 0)
                self.fails(TooMany, {"most": 7}, mean_gap, web, laying)

    def test_errors_ahead_of_too_many(self):
        web = (8, ())
        self.fails(BadPlace, {}, gap_chances, web, (1,) * 8, 8, 0)
        self.fails(BadPlace, {}, gap_chances, web, (1,) * 8, 0, True)
        self.fails(BadPlace, {}, gap_chances, web, (1,) * 8, 7, 7)
        self.fails(BadLaying, {"index": 7}, gap_chances, web, (1,) * 7 + (None,), 8, 8)
        self.fails(BadLaying, {"index": None}, mean_gap, web, (1,) * 7)
        self.fails(BadWeb, {"index": 0}, mean_gap, (8, ((1, 0),)), (1,) * 8)


if __name__ == "__main__":
    unittest.main()
