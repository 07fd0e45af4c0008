import unittest
from itertools import combinations, product

import brute
from brute import COMPLETE, LONG_PATH, LOOSE, PATH, SINGLE, STAR, TRIANGLE
from cointakes.errors import BadLaying, BadWeb, NotForest
from cointakes.rounds import forest_rounds, least_rounds, rounds_plan, shows_rounds
from exact import ExactCase

UP = (1, 1, 1)
PLAN = ((0, 2), (1,))
ODD = (
    None, True, False, 0, 2, "", "plan", (), [], {}, list(PLAN), [[0, 2], [1]], ([0, 2], (1,)), ((0, 2), [1]), ((0, 2),),
    ((2, 0), (1,)), ((0, 2), (1,), ()), ((), (0, 2), (1,)), ((0, 2), ()), ((), (0, 2)), ((0, 2), (1, 1)), ((0, 0, 2), (1,)),
    ((0,), (2,), (1,)), ((1,), (0, 2)), ((0, 1, 2), ()), ((0, 1), (2,)), ((0, 2), (True,)), ((False, 2), (1,)), ((0, 2), 1),
    ((0, 2), None), (None, None), (0, 2), (True, True), ((0, 2), ("1",)), ("02", "1"), ((0, 2), (3,)), ((0, 2), (-1,)),
    ((0, 2), (0,)), ((0, 2), (0, 1)), ((0, 3), (1,)), ((0, 2), ((1,),)), ((0, 2), ([],)), ({}, {}), {0: (0, 2), 1: (1,)},
    ((0, 2), (1,), (1,)), ((0,), (1, 2)), ((0, 2), (2 ** 70,)), ((0, None), (1,)),
)


def rounds_in(web, laying):
    """The sets of places that can be taken in one round."""
    up = [place for place in range(web[0]) if laying[place] == 1]
    groups = [group for size in range(1, len(up) + 1) for group in combinations(up, size)]
    return [group for group in groups if not any(edge in web[1] for edge in combinations(group, 2))]


def behind(web, laying, group):
    """The laying behind a round: all coins of the group at once."""
    coins = []
    for place, coin in enumerate(laying):
        turns = sum(other in group for other in brute.near(web, place))
        empty = place in group or coin is None
        coins.append(None if empty else coin if turns % 2 == 0 else 1 - coin)
    return tuple(coins)


def best_plans(web, laying):
    """All plans with the least number of rounds, round by round from all layings that can be met."""
    going = [((), laying)]
    while going:
        done = [plan for plan, coins in going if coins == (None,) * web[0]]
        if done:
            return done
        going = [((*plan, group), behind(web, coins, group)) for plan, coins in going for group in rounds_in(web, coins)]
    return []


class Rounds(ExactCase):
    def check(self, web, laying):
        plans = best_plans(web, laying)
        least = len(plans[0]) if plans else None
        self.same(least_rounds(web, laying), least)
        plan = rounds_plan(web, laying)
        self.assertTrue(plan in plans if plans else plan is None)
        self.same(shows_rounds(web, laying, plan), True)
        self.same(shows_rounds(web, laying, None), not plans)
        for value in plans[:30]:
            self.same(shows_rounds(web, laying, value), True)
        if not brute.has_ring(web):
            self.same(forest_rounds(web, laying), least)
        else:
            self.fails(NotForest, {}, forest_rounds, web, laying)

    def test_small_webs(self):
        for web in brute.small_webs():
            for laying in brute.full_layings(web):
                self.check(web, laying)

    def test_larger_webs(self):
        for web in (brute.TADPOLE, brute.SPIDER, brute.SEVERAL, brute.line(6), (6, ((0, 5), (1, 5), (2, 5), (3, 4)))):
            for laying in brute.full_layings(web):
                if sum(laying) < 4:
                    self.check(web, laying)

    def test_all_plans_of_three_places(self):
        groups = [group for size in range(4) for group in combinations(range(3), size)]
        for web in brute.all_webs(3):
            for laying in brute.full_layings(web):
                plans = best_plans(web, laying)
                for size in range(4):
                    for value in product(groups, repeat=size):
                        self.same(shows_rounds(web, laying, value), value in plans)

    def test_one_place(self):
        self.same([least_rounds(SINGLE, (1,)), rounds_plan(SINGLE, (1,)), forest_rounds(SINGLE, (1,))], [1, ((0,),), 1])
        self.same([least_rounds(SINGLE, (0,)), rounds_plan(SINGLE, (0,)), forest_rounds(SINGLE, (0,))], [None, None, None])
        self.same([shows_rounds(SINGLE, (0,), None), shows_rounds(SINGLE, (0,), ()), shows_rounds(SINGLE, (1,), ())], [True, False, False])

    def test_nine_places(self):
        every = tuple(range(9))
        self.same([least_rounds(LOOSE, (1,) * 9), rounds_plan(LOOSE, (1,) * 9), forest_rounds(LOOSE, (1,) * 9)], [1, (every,), 1])
        self.same(shows_rounds(LOOSE, (1,) * 9, (every[:-1], (8,))), False)
        self.same([least_rounds(STAR, (1,) * 9), rounds_plan(STAR, (1,) * 9)], [2, (every[:-1], (8,))])
        self.same(rounds_plan(LONG_PATH, (1,) + (0,) * 8), tuple((k,) for k in every))
        self.same(forest_rounds(LONG_PATH, (1,) + (0,) * 8), 9)
        self.same(least_rounds(COMPLETE, (1, 0) * 4 + (1,)), 9)
        self.same([least_rounds(LONG_PATH, (1,) * 9), forest_rounds(LONG_PATH, (1,) * 9)], [2, 2])
        self.same([least_rounds(COMPLETE, (1,) * 9), least_rounds(brute.RING_OF_NINE, (1, 1) + (0,) * 7)], [None, 9])

    def test_no_two_neighbours_at_once(self):
        # Both orders of the two would do, but they turn one another over.
        self.same(least_rounds((2, ((0, 1),)), (1, 1)), None)
        self.same(shows_rounds(TRIANGLE, (1, 0, 1), ((0, 2), (1,))), False)
        self.same(least_rounds(TRIANGLE, (1, 0, 1)), 3)

    def test_a_ring_is_no_forest(self):
        self.fails(NotForest, {}, forest_rounds, TRIANGLE, (1, 0, 1))
        self.fails(NotForest, {}, forest_rounds, TRIANGLE, (0, 0, 0))
        self.fails(NotForest, {}, forest_rounds, COMPLETE, (1, 0) * 4 + (1,))
        self.fails(BadLaying, {"index": 2}, forest_rounds, TRIANGLE, (1, 0, None))
        self.fails(BadWeb, {"index": 3}, forest_rounds, (3, (*TRIANGLE[1], (1, 2))), (1, 0, None))

    def test_forests_that_cannot_be_cleared(self):
        self.same([forest_rounds(PATH, (1, 1, 0)), forest_rounds((3, ((0, 1),)), (1, 0, 0))], [None, None])

    def test_odd_values_are_judged(self):
        self.same(shows_rounds(PATH, UP, PLAN), True)
        for value in ODD:
            before = repr(value)
            self.same(shows_rounds(PATH, UP, value), False, before)
            self.same(shows_rounds(PATH, (1, 1, 0), value), value is None, before)
            self.assertEqual(repr(value), before)


if __name__ == "__main__":
    unittest.main()
