import unittest
from fractions import Fraction

import brute
from brute import COMPLETE, LONG_PATH, LOOSE, PATH, SINGLE, STAR, TRIANGLE
from cointakes.costs import cost_paper, least_cost, mean_cost, shows_cost_paper
from exact import ExactCase

UP = (1, 1, 1)
PRICES = ((3, 1, 4, 1, 5, 9), (0, 0, 0, 0, 0, 0), (7, 7, 7, 7, 7, 7), (1000, 0, 1000, 2, 0, 1), (0, 1000, 1, 1, 1000, 1000))
PAPER = (((), 13), ((0,), 8), ((0, 1, 2), 0), ((0, 2), 6), ((2,), 16))
ODD = (
    None, True, False, 0, 13, "", "paper", (), [], {}, list(PAPER), PAPER[1:], PAPER[:-1], PAPER[::-1], PAPER + PAPER,
    PAPER[:1] + PAPER, PAPER[:2] + (((0, 1), 0),) + PAPER[2:], PAPER[:4] + (((1,), -50),) + PAPER[4:], (None,) * 5, (1, 2),
    (((), 13), ((0,), 8), ((0, 1, 2), False), ((0, 2), 6), ((2,), 16)), tuple([list(pair) for pair in PAPER]),
    (((), 13), ((0,), True), ((0, 1, 2), 0), ((0, 2), 6), ((2,), 16)), tuple((list(state), value) for state, value in PAPER),
    (((), 13), ((0,), 8), ((0, 1, 2), 0), ((0, 2), 6), ((2,), None)), (((), 13), ((0,), 8), ((0, 1, 2), 0), ((0, 2), "6"), ((2,), 16)),
    (((), 13), ((0,), (8,)), ((0, 1, 2), 0), ((0, 2), 6), ((2,), 16)), (((), 13), ((0,), 8), ((0, 1, 2), 0), ((0, 2), []), ((2,), 16)),
    (((), 13), ((False,), 8), ((0, 1, 2), 0), ((0, 2), 6), ((2,), 16)), (((), 13), ((0,), 8), ((0, True, 2), 0), ((0, 2), 6), ((2,), 16)),
    (((), 13), ((0,), 8), ((0, 1, 2), 0), ((2, 0), 6), ((2,), 16)), (((), 13), ((0,), 8), ((0, 1, 2, 2), 0), ((0, 2), 6), ((2,), 16)),
    (((), 13), ((0,), 8), ((0, 1, 3), 0), ((0, 2), 6), ((2,), 16)), (((), 13), ((0,), 8), ((0, 1, 2), 0), ((0, 2), 6), ((2,), 16, 0)),
    (((), 13), ((0,), 8), ((0, 1, 2), 0), ((0, 2), 6), ((2,),)), (((), 13), ((0,), 8), ((0, 1, 2), 0), ((0, 2), 6), "ab"), dict(PAPER),
    (((), 13), ("0", 8), ((0, 1, 2), 0), ((0, 2), 6), ((2,), 16)), (((), 13), ({}, 8), ((0, 1, 2), 0), ((0, 2), 6), ((2,), 16)),
)


def cost(order, prices):
    return sum(prices[place] * (time + 1) for time, place in enumerate(order))


def prefixes(order):
    return [tuple(sorted(order[:time])) for time in range(len(order) + 1)]


def may_stand(orders, prices, paper):
    """Whether values of states, as a dict, may stand in a paper."""
    states = {state for order in orders for state in prefixes(order)}
    every = tuple(sorted(orders[0]))
    if set(paper) != states or paper[every] != 0 or paper[()] != min(cost(order, prices) for order in orders):
        return False
    for order in orders:
        steps = prefixes(order)
        for time, place in enumerate(order):
            if paper[steps[time]] > paper[steps[time + 1]] + prices[place] * (time + 1):
                return False
    return True


class Costs(ExactCase):
    def cases(self, webs):
        for web in webs:
            for number, (laying, orders) in enumerate(brute.by_laying(web).items()):
                yield web, laying, orders, PRICES[number % len(PRICES)][:web[0]]

    def test_small_webs(self):
        for web, laying, orders, prices in self.cases(brute.some_webs()):
            if orders:
                costs = [cost(order, prices) for order in orders]
                best = min((cost(order, prices), order) for order in orders)
                mean = Fraction(sum(costs), len(costs))
                self.same(least_cost(web, laying, prices), best)
                self.same(mean_cost(web, laying, prices), (mean.numerator, mean.denominator))
                paper = cost_paper(web, laying, prices)
                self.same(paper, tuple(sorted(paper)))
                self.same(may_stand(orders, prices, dict(paper)), True)
                self.same(shows_cost_paper(web, laying, prices, paper), True)
                self.same(shows_cost_paper(web, laying, prices, None), False)
            else:
                found = [least_cost(web, laying, prices), mean_cost(web, laying, prices), cost_paper(web, laying, prices)]
                self.same(found, [None, None, None])
                self.same(shows_cost_paper(web, laying, prices, None), True)
                self.same(shows_cost_paper(web, laying, prices, ()), False)

    def test_other_papers(self):
        for web, laying, orders, prices in self.cases(brute.all_webs(3) + brute.all_webs(4)[::4] + [brute.TADPOLE]):
            if orders:
                paper = cost_paper(web, laying, prices)
                for k, (state, value) in enumerate(paper):
                    for other in (value - 1, value + 1, value - 999, value + 999, -value, 0):
                        changed = paper[:k] + ((state, other),) + paper[k + 1:]
                        wanted = may_stand(orders, prices, dict(changed))
                        self.same(shows_cost_paper(web, laying, prices, changed), wanted)
                    self.same(shows_cost_paper(web, laying, prices, paper[:k] + paper[k + 1:]), False)
                self.too_many_states(web, laying, prices, paper)

    def too_many_states(self, web, laying, prices, paper):
        for state in ((0,), (1,), (2,), (0, 1), (0, 2), (1, 2)):
            if state not in dict(paper):
                more = tuple(sorted((*paper, (state, -99999))))
                self.same(shows_cost_paper(web, laying, prices, more), False)

    def test_other_values_may_stand(self):
        for value in (16, 15, 12, -10 ** 30):
            self.same(shows_cost_paper(PATH, UP, (5, 2, 1), PAPER[:4] + (((2,), value),)), value >= 12)
        # The value of the state (2,) has to let () have the least cost, 13, of which 1 is for its own take.
        self.same(shows_cost_paper(PATH, UP, (5, 2, 1), PAPER[:4] + (((2,), 17),)), False)
        self.same(shows_cost_paper(PATH, UP, (5, 2, 1), PAPER[:1] + (((0,), 7),) + PAPER[2:]), False)

    def test_a_free_web(self):
        paper = (((), 0), ((0,), 0), ((0, 1), 0), ((1,), 0))
        web = (2, ())
        self.same(shows_cost_paper(web, (1, 1), (0, 0), paper), True)
        self.same(shows_cost_paper(web, (1, 1), (0, 0), paper[:2] + (((0, 1), False),) + paper[3:]), False)
        self.same(shows_cost_paper(web, (1, 1), (0, 0), paper[:1] + (((0,), False),) + paper[2:]), False)
        self.same(shows_cost_paper(web, (1, 1), (0, 0), (((), 0), ((0,), 1), ((0, 1), 0), ((1,), 0))), False)
        self.same(shows_cost_paper(web, (1, 1), (0, 0), (((), 0), ((0,), 0), ((0, 1), -1), ((1,), 0))), False)
        self.same(shows_cost_paper(web, (1, 1), (0, 0), (((), -1), ((0,), 0), ((0, 1), 0), ((1,), 0))), False)

    def test_the_least_of_several_orders(self):
        self.same(least_cost(LOOSE, (1,) * 9, (0,) * 9), (0, tuple(range(9))))
        self.same(least_cost(PATH, UP, (5, 2, 5)), (21, (0, 2, 1)))
        self.same(least_cost(PATH, UP, (1, 2, 5)), (13, (2, 0, 1)))

    def test_least_and_greatest_prices(self):
        self.same(least_cost(LOOSE, (1,) * 9, (1000,) * 9), (45000, tuple(range(9))))
        self.same(mean_cost(LOOSE, (1,) * 9, (1000,) * 9), (45000, 1))
        self.same([mean_cost(PATH, UP, (0, 0, 0)), least_cost(PATH, UP, (0, 0, 0))], [(0, 1), (0, (0, 2, 1))])
        self.same(mean_cost(LOOSE, (1,) * 9, (0,) * 8 + (1,)), (5, 1))
        self.same(least_cost(LOOSE, (1,) * 9, (0,) * 8 + (1,)), (1, (8, 0, 1, 2, 3, 4, 5, 6, 7)))

    def test_one_place(self):
        self.same([least_cost(SINGLE, (1,), (7,)), mean_cost(SINGLE, (1,), (7,))], [(7, (0,)), (7, 1)])
        self.same(cost_paper(SINGLE, (1,), (7,)), (((), 7), ((0,), 0)))
        self.same(shows_cost_paper(SINGLE, (1,), (7,), (((), 7), ((0,), 0))), True)
        self.same(shows_cost_paper(SINGLE, (1,), (1,), (((), True), ((0,), 0))), False)

    def test_odd_values_are_judged(self):
        self.same(shows_cost_paper(PATH, UP, (5, 2, 1), PAPER), True)
        for value in ODD:
            before = repr(value)
            self.same(shows_cost_paper(PATH, UP, (5, 2, 1), value), False, before)
            self.same(shows_cost_paper(TRIANGLE, (0, 0, 0), (5, 2, 1), value), value is None, before)
            self.assertEqual(repr(value), before)

    def test_nine_places(self):
        prices = (3, 1, 4, 1, 5, 9, 2, 6, 5)
        self.same(least_cost(LONG_PATH, (1,) + (0,) * 8, prices), (cost(range(9), prices), tuple(range(9))))
        for web, laying in ((STAR, (1,) * 9), (COMPLETE, (1, 0) * 4 + (1,)), (brute.RING_OF_NINE, (1, 1) + (0,) * 7)):
            least, order = least_cost(web, laying, prices)
            self.same(cost(order, prices), least)
            self.assertIsNotNone(brute.play(web, laying, order))
            paper = cost_paper(web, laying, prices)
            self.same(dict(paper)[()], least)
            self.same(shows_cost_paper(web, laying, prices, paper), True)


if __name__ == "__main__":
    unittest.main()
