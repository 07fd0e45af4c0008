import unittest
from functools import lru_cache
from itertools import product

import brute
from brute import COMPLETE, LONG_PATH, LOOSE, PATH, SINGLE, STAR, TRIANGLE
from cointakes.hands import last_hand, winning_takes, worth
from exact import ExactCase


def further(web, laying):
    behind = [(place, brute.take(web, laying, place)) for place in range(web[0])]
    return [(place, coins) for place, coins in behind if coins is not None]


@lru_cache(maxsize=None)
def worth_by_play(web, laying):
    met = {worth_by_play(web, coins) for _, coins in further(web, laying)}
    return min(number for number in range(len(met) + 1) if number not in met)


@lru_cache(maxsize=None)
def can_win(web, laying):
    """Whether the hand that has to take can have the last take; without worths."""
    return any(not can_win(web, coins) for _, coins in further(web, laying))


class Hands(ExactCase):
    def check(self, web, laying):
        self.same(worth(web, laying), worth_by_play(web, laying))
        self.same(last_hand(web, laying), can_win(web, laying))
        wanted = tuple(place for place, coins in further(web, laying) if not can_win(web, coins))
        self.same(winning_takes(web, laying), wanted)

    def test_small_webs(self):
        for web in brute.small_webs():
            for laying in brute.any_layings(web):
                self.check(web, laying)

    def test_larger_webs(self):
        for web in (brute.TADPOLE, brute.SPIDER, brute.SEVERAL):
            for laying in brute.any_layings(web)[::3]:
                self.check(web, laying)

    def test_one_place(self):
        self.same([worth(SINGLE, (1,)), last_hand(SINGLE, (1,)), winning_takes(SINGLE, (1,))], [1, True, (0,)])
        for coin in (0, None):
            self.same([worth(SINGLE, (coin,)), last_hand(SINGLE, (coin,)), winning_takes(SINGLE, (coin,))], [0, False, ()])

    def test_nothing_to_take(self):
        for laying in product((0, None), repeat=3):
            self.same([worth(TRIANGLE, laying), last_hand(TRIANGLE, laying), winning_takes(TRIANGLE, laying)], [0, False, ()])

    def test_empty_places_are_turned_by_no_take(self):
        self.same([worth(PATH, (1, None, 1)), winning_takes(PATH, (1, None, 1))], [0, ()])
        self.same([worth(PATH, (None, 1, None)), winning_takes(PATH, (None, 1, None))], [1, (1,)])
        self.same([worth(PATH, (1, None, 0)), winning_takes(PATH, (1, None, 0))], [1, (0,)])

    def test_nine_places(self):
        self.same([worth(LOOSE, (1,) * 9), winning_takes(LOOSE, (1,) * 9)], [1, tuple(range(9))])
        self.same([worth(LOOSE, (1,) * 8 + (0,)), winning_takes(LOOSE, (1,) * 8 + (0,))], [0, ()])
        self.same(worth(LOOSE, (None,) * 9), 0)
        self.same(worth(LONG_PATH, (1,) + (0,) * 8), 1)
        for web in (LONG_PATH, STAR, COMPLETE, brute.RING_OF_NINE):
            for laying in ((1,) * 9, (1, 1, 0) * 3, (1, None, 1, 0, 1, 1, None, 0, 1)):
                self.check(web, laying)

    def test_parts_add_without_carry(self):
        for one in brute.any_layings(PATH):
            for other in brute.any_layings(TRIANGLE)[::2]:
                web = (6, ((0, 1), (1, 2), (3, 4), (3, 5), (4, 5)))
                self.same(worth(web, one + other), worth(PATH, one) ^ worth(TRIANGLE, other))


if __name__ == "__main__":
    unittest.main()
