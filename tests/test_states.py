import unittest
from fractions import Fraction
from itertools import permutations
from math import factorial

import brute
from brute import COMPLETE, LONG_PATH, LOOSE, PATH, RING_OF_NINE, SINGLE, STAR, TRIANGLE
from cointakes.states import laying_behind, next_chances, ready, safe_takes, ways_on, ways_to
from exact import ExactCase

UP = (1, 1, 1)


def ratio(part, whole):
    value = Fraction(part, whole)
    return value.numerator, value.denominator


class States(ExactCase):
    def check(self, web, laying, state):
        behind = brute.laying_in(web, laying, state)
        left = [place for place in range(web[0]) if place not in state]
        on = [order for order in permutations(left) if brute.play(web, behind, order) is not None]
        to = [order for order in permutations(state) if brute.play(web, laying, order) is not None]
        for order in to:
            self.same(brute.play(web, laying, order), behind)
        self.same(laying_behind(web, laying, state), behind)
        self.same(ready(web, laying, state), tuple(place for place in left if behind[place] == 1))
        self.same(ways_on(web, laying, state), len(on))
        self.same(ways_to(web, laying, state), len(to))
        self.same(safe_takes(web, laying, state), tuple(sorted({order[0] for order in on if order})))
        wanted = None
        if on and left:
            begun = [sum(order[0] == place for order in on) for place in range(web[0])]
            wanted = tuple(ratio(count, len(on)) for count in begun)
        self.same(next_chances(web, laying, state), wanted)

    def test_all_states_of_small_webs(self):
        for many in (1, 2, 3):
            for web in brute.all_webs(many):
                for laying in brute.full_layings(web):
                    for state in brute.states(web):
                        self.check(web, laying, state)

    def test_all_states_of_larger_webs(self):
        webs = brute.all_webs(4)[::3] + [brute.SQUARE, brute.TADPOLE]
        for web in webs:
            for laying in brute.full_layings(web)[::3]:
                for state in brute.states(web):
                    self.check(web, laying, state)

    def test_no_coin_taken(self):
        self.same(laying_behind(PATH, UP, ()), UP)
        self.same([ready(PATH, UP, ()), ways_on(PATH, UP, ()), ways_to(PATH, UP, ())], [(0, 1, 2), 2, 1])

    def test_all_coins_taken(self):
        every = (0, 1, 2)
        self.same(laying_behind(PATH, UP, every), (None, None, None))
        self.same([ready(PATH, UP, every), ways_on(PATH, UP, every), ways_to(PATH, UP, every)], [(), 1, 2])
        self.same([safe_takes(PATH, UP, every), next_chances(PATH, UP, every)], [(), None])
        self.same(ways_to(PATH, (1, 1, 0), every), 0)
        self.same(ways_on(PATH, (1, 1, 0), every), 1)

    def test_a_state_that_cannot_be_met(self):
        self.same(ways_to(PATH, UP, (0, 1)), 0)
        self.same(laying_behind(PATH, UP, (0, 1)), (None, None, 0))
        self.same(ways_to(PATH, (0, 0, 0), (1,)), 0)
        self.same(laying_behind(PATH, (0, 0, 0), (1,)), (1, None, 1))
        self.same(ways_on(PATH, (0, 0, 0), (1,)), 2)
        self.same(next_chances(PATH, (0, 0, 0), (1,)), ((1, 2), (0, 1), (1, 2)))

    def test_no_ways_on(self):
        self.same([ways_on(PATH, UP, (1,)), safe_takes(PATH, UP, (1,)), next_chances(PATH, UP, (1,))], [0, (), None])
        self.same(next_chances(TRIANGLE, (0, 0, 0), ()), None)

    def test_ready_is_not_always_safe(self):
        self.same([ready(PATH, UP, ()), safe_takes(PATH, UP, ())], [(0, 1, 2), (0, 2)])

    def test_one_place(self):
        self.same(next_chances(SINGLE, (1,), ()), ((1, 1),))
        self.same(next_chances(SINGLE, (0,), ()), None)
        self.same(next_chances(SINGLE, (1,), (0,)), None)
        self.same(laying_behind(SINGLE, (0,), (0,)), (None,))

    def test_nine_places(self):
        self.same(laying_behind(STAR, (1,) * 9, (8,)), (0,) * 8 + (None,))
        self.same(laying_behind(COMPLETE, (1,) * 9, (0, 8)), (None,) + (1,) * 7 + (None,))
        self.same(ways_on(LOOSE, (1,) * 9, ()), factorial(9))
        self.same(ways_to(LOOSE, (1,) * 9, (0, 2, 3, 5, 6, 7, 8)), factorial(7))
        self.same(next_chances(LOOSE, (1,) * 9, (4,)), ((1, 8),) * 4 + ((0, 1),) + ((1, 8),) * 4)
        self.same(ways_on(STAR, (1,) * 9, (0, 1)), factorial(6))
        self.same(safe_takes(RING_OF_NINE, (1, 1) + (0,) * 7, ()), (0, 1))
        self.same(ready(LONG_PATH, (1,) * 9, (1, 3)), (2, 5, 6, 7, 8))


if __name__ == "__main__":
    unittest.main()
