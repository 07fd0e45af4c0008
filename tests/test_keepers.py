import unittest
from functools import lru_cache

import brute
from brute import COMPLETE, LONG_PATH, LOOSE, PATH, SINGLE, STAR, TRIANGLE
from cointakes.keepers import keeper_plan, keeper_wins, left_value, shows_plan
from exact import ExactCase

UP = (1, 1, 1)
PLAN = (((), 0), ((0, 2), 1))
ODD = (
    None, True, False, 0, 1, "", "plan", (), [], {}, [((), 0), ((0, 2), 1)], list(PLAN), (((), 0),), (((0, 2), 1),),
    (((0, 2), 1), ((), 0)), PLAN + PLAN, (((), 0), ((), 0), ((0, 2), 1)), (((), 0), ((), 2), ((0, 2), 1)),
    (((), 0), ((0, 1), 2), ((0, 2), 1)), PLAN + (((1,), 0),), PLAN + (((0, 1, 2), 0),), (((), 0), ((0,), 2), ((0, 2), 1)),
    (((), 1), ((0, 2), 1)), (((), 1),), (((), 0), ((0, 2), 0)), (((), 0), ((0, 2), 2)), (((), 0), ((0, 2), 3)),
    (((), 0), ((0, 2), -1)), (((), 0), ((0, 2), None)), (((), 0), ((0, 2), True)), (((), False), ((0, 2), 1)),
    (((), 0), ((False, 2), 1)), (((), 0), ((2, 0), 1)), (((), 0), ((0, 2, 2), 1)), (((), 0), ([0, 2], 1)),
    (([], 0), ((0, 2), 1)), ([(), 0], [(0, 2), 1]), (((), 0), ((0, 2), 1, 1)), (((), 0), ((0, 2),)), (((), 0), (0, 2)),
    (((), 0), "01"), (((), 0), None), (((), 0), 5), (((), 0), ((0, 2), "1")), (((), 0), ((0, 2), (1,))),
    (((), 0), ((0, 2), [])), (((), 0), ((0, "2"), 1)), (((), 0), ((0, 3), 1)), (((), 0), ({}, 1)), ({}, {}), ((), ()),
    {(): 0, (0, 2): 1}, (0, 1), ("", ""), ((None, None),), (((), 0), ((0, 2), 2 ** 70)), (((), 0), ((0, None), 1)),
)


def is_keepers(state, is_first):
    return (len(state) % 2 == 0) == is_first


def further(web, laying, state):
    """The pairs (place, state behind its take) from a state that is met."""
    coins = brute.play(web, laying, order_to(web, laying, state))
    return [(k, tuple(sorted((*state, k)))) for k in range(web[0]) if coins[k] == 1]


@lru_cache(maxsize=None)
def order_to(web, laying, state):
    """Any order in which the coins of a state can be taken, None without any."""
    if not state:
        return ()
    for place in state:
        order = order_to(web, laying, tuple(k for k in state if k != place))
        if order is not None and brute.play(web, laying, (*order, place)) is not None:
            return (*order, place)
    return None


@lru_cache(maxsize=None)
def left_by_play(web, laying, is_first, state):
    numbers = [left_by_play(web, laying, is_first, other) for _, other in further(web, laying, state)]
    if not numbers:
        return web[0] - len(state)
    return min(numbers) if is_keepers(state, is_first) else max(numbers)


def all_plans(web, laying, is_first):
    """All plans with which the keeper wins, by trying all places at all states that come up."""
    plans = set()
    every = tuple(range(web[0]))
    going = [((), {}, {()})]
    while going:
        done, plan, fresh = going.pop()
        open_states = sorted(fresh - set(done), key=lambda state: (len(state), state))
        if not open_states:
            plans.add(tuple(sorted(plan.items())))
            continue
        state = open_states[0]
        takes = further(web, laying, state)
        if state != every and not takes:
            continue
        if state == every or not is_keepers(state, is_first):
            going.append(((*done, state), plan, fresh | {other for _, other in takes}))
        else:
            going.extend([((*done, state), {**plan, state: k}, fresh | {other}) for k, other in takes])
    return plans


def changed(plan, web):
    """Plans that are a little unlike one."""
    found = [plan[:k] + plan[k + 1:] for k in range(len(plan))]
    for k, (state, place) in enumerate(plan):
        found.extend(plan[:k] + ((state, other),) + plan[k + 1:] for other in range(web[0] + 1) if other != place)
        found.append(plan[:k] + (plan[k],) + plan[k:])
    for state in ((), (0,), (0, 1), (1,), tuple(range(web[0]))):
        if state not in dict(plan):
            found.extend(tuple(sorted((*plan, (state, place)))) for place in range(web[0]))
    if len(plan) > 1:
        found.append(plan[::-1])
    return found


class Keepers(ExactCase):
    def webs(self):
        return brute.all_webs(1) + brute.all_webs(2) + brute.all_webs(3) + brute.all_webs(4)[::5]

    def test_values(self):
        for web in brute.small_webs() + [brute.TADPOLE, brute.SPIDER]:
            for laying in brute.full_layings(web):
                for is_first in (True, False):
                    left = left_by_play(web, laying, is_first, ())
                    self.same(left_value(web, laying, is_first), left)
                    self.same(keeper_wins(web, laying, is_first), left == 0)
                    plan = keeper_plan(web, laying, is_first)
                    self.same(plan is None, left > 0)
                    self.same(shows_plan(web, laying, is_first, plan), True)
                    self.same(shows_plan(web, laying, is_first, None), left > 0)

    def test_plans(self):
        for web in self.webs():
            for laying in brute.full_layings(web):
                for is_first in (True, False):
                    plans = all_plans(web, laying, is_first)
                    plan = keeper_plan(web, laying, is_first)
                    self.same(plan is None, not plans)
                    self.assertTrue(plan is None or plan in plans)
                    self.check_shown(web, laying, is_first, plans)

    def check_shown(self, web, laying, is_first, plans):
        for plan in sorted(plans)[:20]:
            self.same(shows_plan(web, laying, is_first, plan), True)
            for value in changed(plan, web):
                self.same(shows_plan(web, laying, is_first, value), value in plans, value)

    def test_plans_where_there_is_none(self):
        for value in ((), PLAN, (((), 1),), False, 0):
            self.same(shows_plan(PATH, UP, False, value), False)
        self.same(shows_plan(PATH, UP, False, None), True)

    def test_nothing_for_the_keeper_to_take(self):
        self.same([keeper_plan(SINGLE, (1,), False), keeper_plan(SINGLE, (1,), True)], [(), (((), 0),)])
        self.same([shows_plan(SINGLE, (1,), False, ()), shows_plan(SINGLE, (1,), False, None)], [True, False])
        self.same([shows_plan(SINGLE, (1,), False, []), shows_plan(SINGLE, (1,), False, (((), 0),))], [False, False])
        self.same(shows_plan(SINGLE, (1,), True, ()), False)

    def test_a_keeper_who_cannot_do_it(self):
        self.same([keeper_wins(SINGLE, (0,), True), left_value(SINGLE, (0,), True)], [False, 1])
        self.same([keeper_plan(SINGLE, (0,), False), left_value(TRIANGLE, (0, 0, 0), False)], [None, 3])
        self.same(keeper_plan(PATH, (1, 1, 0), True), None)

    def test_odd_values_are_judged(self):
        self.same(shows_plan(PATH, UP, True, PLAN), True)
        self.same(shows_plan(PATH, UP, True, (((), 2), ((0, 2), 1))), True)
        for value in ODD:
            before = repr(value)
            self.same(shows_plan(PATH, UP, True, value), False, before)
            self.same(shows_plan(PATH, (1, 1, 0), True, value), value is None, before)
            self.assertEqual(repr(value), before)

    def test_nine_places(self):
        self.same([left_value(LOOSE, (1,) * 9, True), left_value(LOOSE, (1,) * 8 + (0,), False)], [0, 1])
        self.same(left_value(COMPLETE, (1,) + (0,) * 8, True), 7)
        self.same(keeper_plan(LONG_PATH, (1,) + (0,) * 8, False), tuple((tuple(range(k)), k) for k in (1, 3, 5, 7)))
        self.same(keeper_plan(STAR, (1,) * 9, False), None)
        for web in (LOOSE, LONG_PATH, STAR, COMPLETE, brute.RING_OF_NINE):
            for laying in ((1,) * 9, (1, 1, 0) * 3, (0, 0, 0, 0, 1, 0, 0, 0, 0)):
                for is_first in (True, False):
                    plan = keeper_plan(web, laying, is_first)
                    self.same(plan is None, not keeper_wins(web, laying, is_first))
                    self.same(shows_plan(web, laying, is_first, plan), True)


if __name__ == "__main__":
    unittest.main()
