import unittest

import brute
from brute import COMPLETE, LONG_PATH, LOOSE, PATH, SINGLE, STAR, TRIANGLE
from cointakes.lasts import fewest_left, is_sure, last_states, met_count, most_left, only_left
from exact import ExactCase


def met(web, laying):
    """For each state that can be met the laying there."""
    found = {(): laying}
    fresh = [()]
    while fresh:
        state = fresh.pop()
        for place in range(web[0]):
            behind = brute.take(web, found[state], place)
            further = tuple(sorted((*state, place)))
            if behind is not None and further not in found:
                found[further] = behind
                fresh.append(further)
    return found


class Lasts(ExactCase):
    def test_small_webs(self):
        for web in brute.some_webs():
            for laying in brute.full_layings(web):
                found = met(web, laying)
                lasts = sorted(state for state in found if 1 not in found[state])
                left = [(web[0] - len(state), state) for state in lasts]
                self.same(met_count(web, laying), len(found))
                self.same(last_states(web, laying), tuple(lasts))
                self.same(fewest_left(web, laying), min(left))
                most = max(number for number, _ in left)
                self.same(most_left(web, laying), min(pair for pair in left if pair[0] == most))
                only = [k for k in range(web[0]) for state in lasts if sorted((*state, k)) == list(range(web[0]))]
                self.same(only_left(web, laying), tuple(only))
                self.same(is_sure(web, laying), lasts == [tuple(range(web[0]))])

    def test_no_head_up(self):
        self.same(met_count(TRIANGLE, (0, 0, 0)), 1)
        self.same(last_states(TRIANGLE, (0, 0, 0)), ((),))
        self.same([fewest_left(TRIANGLE, (0, 0, 0)), most_left(TRIANGLE, (0, 0, 0))], [(3, ()), (3, ())])
        self.same([only_left(TRIANGLE, (0, 0, 0)), is_sure(TRIANGLE, (0, 0, 0))], [(), False])

    def test_one_place(self):
        self.same([met_count(SINGLE, (1,)), last_states(SINGLE, (1,))], [2, ((0,),)])
        self.same([fewest_left(SINGLE, (1,)), only_left(SINGLE, (1,)), is_sure(SINGLE, (1,))], [(0, (0,)), (), True])
        self.same([met_count(SINGLE, (0,)), last_states(SINGLE, (0,))], [1, ((),)])
        self.same([most_left(SINGLE, (0,)), only_left(SINGLE, (0,)), is_sure(SINGLE, (0,))], [(1, ()), (0,), False])

    def test_the_least_of_equal_states(self):
        web = (4, ((0, 1), (2, 3)))
        self.same(last_states(web, (1, 1, 1, 1)), ((0, 2), (0, 3), (1, 2), (1, 3)))
        self.same([fewest_left(web, (1, 1, 1, 1)), most_left(web, (1, 1, 1, 1))], [(2, (0, 2)), (2, (0, 2))])

    def test_states_are_ordered_as_tuples(self):
        self.same(last_states(PATH, (1, 1, 1)), ((0, 1, 2), (1,)))

    def test_only_left_in_a_tree(self):
        self.same(only_left(LONG_PATH, (1,) + (0,) * 7 + (1,)), tuple(range(9)))
        self.same(only_left(LONG_PATH, (0,) * 9), ())
        self.same(only_left(LONG_PATH, (1,) * 9), ())
        self.same(only_left(STAR, (0,) + (1,) * 8), (1, 2, 3, 4, 5, 6, 7))

    def test_nine_places(self):
        self.same(met_count(LOOSE, (1,) * 9), 512)
        self.same(last_states(LOOSE, (1,) * 8 + (0,)), (tuple(range(8)),))
        self.same([is_sure(LOOSE, (1,) * 9), is_sure(LOOSE, (1,) * 8 + (0,))], [True, False])
        self.same(is_sure(LONG_PATH, (1,) + (0,) * 8), True)
        self.same(is_sure(LONG_PATH, (1,) * 9), False)
        self.same([fewest_left(STAR, (1,) * 9), most_left(STAR, (1,) * 9)], [(0, tuple(range(9))), (8, (8,))])
        self.same(last_states(COMPLETE, (1,) + (0,) * 8), tuple((0, k) for k in range(1, 9)))
        self.same([fewest_left(COMPLETE, (1,) + (0,) * 8), most_left(COMPLETE, (1,) + (0,) * 8)], [(7, (0, 1))] * 2)


if __name__ == "__main__":
    unittest.main()
