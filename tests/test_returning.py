import unittest
from itertools import permutations

import brute
from brute import COMPLETE, LOOSE, PATH, SINGLE, STAR, TRIANGLE
from cointakes.returning import farthest, joined_count, state_parts, steps_between, way_between
from exact import ExactCase

UP = (1, 1, 1)


def steps_of(web, laying, state):
    """The pairs (place, state behind the step), by taking coins and by putting them back on the laying itself."""
    here = brute.laying_in(web, laying, state)
    found = []
    for place in range(web[0]):
        if here[place] is None:
            back = tuple(1 if k == place else 1 - c if c is not None and k in brute.near(web, place) else c
                         for k, c in enumerate(here))
            other = tuple(k for k in state if k != place)
            if back == brute.laying_in(web, laying, other):
                found.append((place, other))
        elif here[place] == 1:
            found.append((place, tuple(sorted((*state, place)))))
    return found


def ways_from(web, laying, start):
    """For each state to which there is a way the least of the shortest tuples of places."""
    found = {start: ()}
    fresh = [start]
    while fresh:
        further = {}
        for state in fresh:
            for place, other in steps_of(web, laying, state):
                if other not in found:
                    further[other] = min(further.get(other, (99,)), (*found[state], place))
        found.update(further)
        fresh = list(further)
    return found


class Returning(ExactCase):
    def check(self, web, laying, starts):
        sizes = {}
        for one in brute.states(web):
            if one in starts or one not in sizes:
                found = ways_from(web, laying, one)
                sizes.update({other: (min(found), len(found)) for other in found})
            if one in starts:
                self.check_one(web, laying, one, found)
        self.same(state_parts(web, laying), tuple(sorted(size for _, size in set(sizes.values()))))

    def check_one(self, web, laying, one, found):
        for other in brute.states(web):
            way = found.get(other)
            self.same(way_between(web, laying, one, other), way)
            self.same(steps_between(web, laying, one, other), None if way is None else len(way))
        self.same(joined_count(web, laying, one), len(found))
        most = max(len(way) for way in found.values())
        self.same(farthest(web, laying, one), (most, tuple(sorted(s for s in found if len(found[s]) == most))))

    def test_small_webs(self):
        for many in (1, 2, 3):
            for web in brute.all_webs(many):
                for laying in brute.full_layings(web):
                    self.check(web, laying, brute.states(web))

    def test_larger_webs(self):
        for web in brute.all_webs(4)[::5] + [brute.TADPOLE, brute.SPIDER]:
            for laying in brute.full_layings(web)[::3]:
                self.check(web, laying, brute.states(web)[::5])

    def test_the_same_state_twice(self):
        for state in brute.states(PATH):
            self.same([steps_between(PATH, UP, state, state), way_between(PATH, UP, state, state)], [0, ()])

    def test_a_state_without_steps(self):
        self.same([joined_count(PATH, UP, (0, 1)), farthest(PATH, UP, (0, 1))], [1, (0, ((0, 1),))])
        self.same([steps_between(PATH, UP, (), (0, 1)), way_between(PATH, UP, (0, 1), ())], [None, None])
        self.same(state_parts(PATH, UP), (1, 1, 6))
        self.same([joined_count(TRIANGLE, (0, 0, 0), ()), farthest(TRIANGLE, (0, 0, 0), ())], [1, (0, ((),))])

    def test_states_that_cannot_be_met_may_be_joined(self):
        # With no head up nothing can be taken, and from the state (1,) on there are ways all the same.
        self.same([joined_count(PATH, (0, 0, 0), (1,)), steps_between(PATH, (0, 0, 0), (1,), (0, 1, 2))], [6, 2])
        self.same(steps_between(PATH, (0, 0, 0), (1,), ()), None)
        self.same(way_between(PATH, (0, 0, 0), (0, 1), (1, 2)), (0, 2))

    def test_one_place(self):
        self.same([state_parts(SINGLE, (1,)), state_parts(SINGLE, (0,))], [(2,), (1, 1)])
        self.same([steps_between(SINGLE, (1,), (0,), ()), way_between(SINGLE, (1,), (0,), ())], [1, (0,)])
        self.same([farthest(SINGLE, (1,), ()), farthest(SINGLE, (0,), ())], [(1, ((0,),)), (0, ((),))])

    def test_nine_places(self):
        every = tuple(range(9))
        self.same(steps_between(LOOSE, (1,) * 9, (0, 3), every[1:]), 8)
        self.same(way_between(LOOSE, (1,) * 9, (7, 8), (0, 1)), (0, 1, 7, 8))
        self.same([joined_count(LOOSE, (1,) * 9, (4,)), state_parts(LOOSE, (1,) * 9)], [512, (512,)])
        self.same(farthest(LOOSE, (1,) * 9, (4,)), (9, ((0, 1, 2, 3, 5, 6, 7, 8),)))
        self.same(state_parts(LOOSE, (0,) * 9), (1,) * 512)
        for web in (STAR, COMPLETE, brute.RING_OF_NINE):
            self.same(sum(state_parts(web, (1, 0, 0) * 3)), 512)

    def test_steps_lead_back(self):
        web = brute.TADPOLE
        for one, other in permutations(brute.states(web)[::3], 2):
            there = steps_between(web, (1, 0, 1, 1, 0), one, other)
            self.same(steps_between(web, (1, 0, 1, 1, 0), other, one), there)


if __name__ == "__main__":
    unittest.main()
