import unittest
from fractions import Fraction
from functools import lru_cache
from time import monotonic

import brute
from brute import line
from cointakes.hands import winning_takes, worth
from cointakes.lasts import fewest_left, most_left
from cointakes.longrows import row_chance, row_left, row_mean_left, row_wins, row_worth
from cointakes.takers import clear_chance, mean_left
from exact import ExactCase

MIXED = (0, 1, 1, 0, 1, 0, 0, 1, 1, 1, 0, 1, 0, 0, 0, 1, 1, 0, 1, 1, 1, 1, 0, 0, 1, 0, 1, 0, 1, 1, 0, 0, 0, 0, 1, 1, 1, 0, 1, 1)
LONG = ((1,) * 40, (0,) * 39 + (1,), (1,) + (0,) * 39, (1, 0) * 20, (0, 1, 1, 1) * 10, MIXED)


def all_rows(many):
    return brute.full_layings((many, ()))


def behind(row, place):
    """The parts that a take leaves, those without a coin left out."""
    coins = brute.take(line(len(row)), row, place)
    return [part for part in (coins[:place], coins[place + 1:]) if part]


@lru_cache(maxsize=None)
def values(row):
    """The least and greatest number of coins left, the worth, the chance and the mean number of coins left."""
    takes = [[values(part) for part in behind(row, place)] for place, coin in enumerate(row) if coin]
    if not takes:
        return len(row), len(row), 0, Fraction(0), Fraction(len(row))
    least = min(sum(part[0] for part in parts) for parts in takes)
    most = max(sum(part[1] for part in parts) for parts in takes)
    worths = {parts[0][2] ^ parts[1][2] if len(parts) == 2 else sum(part[2] for part in parts) for parts in takes}
    chance = Fraction(0)
    for parts in takes:
        product = Fraction(1)
        for part in parts:
            product *= part[3]
        chance += product
    mean = sum((sum((part[4] for part in parts), Fraction(0)) for parts in takes), Fraction(0))
    mex = min(k for k in range(len(worths) + 1) if k not in worths)
    return least, most, mex, chance / len(takes), mean / len(takes)


def pair(value):
    return value.numerator, value.denominator


class LongRows(ExactCase):
    def check_web(self, row):
        web = line(len(row))
        self.same(row_left(row), (fewest_left(web, row)[0], most_left(web, row)[0]))
        self.same(row_worth(row), worth(web, row))
        self.same(row_wins(row), winning_takes(web, row))
        self.same(row_chance(row), clear_chance(web, row))
        self.same(row_mean_left(row), mean_left(web, row))

    def test_all_rows_that_are_webs_too(self):
        for many in range(1, 8):
            for row in all_rows(many):
                self.check_web(row)
        for row in all_rows(9)[::19] + all_rows(8)[::7]:
            self.check_web(row)

    def check_values(self, row):
        least, most, mex, chance, mean = values(row)
        self.same(row_left(row), (least, most))
        self.same(row_worth(row), mex)
        self.same(row_chance(row), pair(chance))
        self.same(row_mean_left(row), pair(mean))
        wins = []
        for place, coin in enumerate(row):
            if coin:
                worths = [values(part)[2] for part in behind(row, place)] + [0, 0]
                if worths[0] == worths[1]:
                    wins.append(place)
        self.same(row_wins(row), tuple(wins))

    def test_longer_rows(self):
        for row in all_rows(11)[::37] + all_rows(14)[::1111]:
            self.check_values(row)

    def test_forty_coins(self):
        for row in LONG:
            self.check_values(row)

    def test_forty_coins_come_soon(self):
        for function in (row_left, row_worth, row_wins, row_chance, row_mean_left):
            for row in LONG:
                start = monotonic()
                function(row)
                self.assertLess(monotonic() - start, 5, function.__name__)

    def test_one_coin(self):
        self.same([row_left((1,)), row_worth((1,)), row_wins((1,)), row_chance((1,)), row_mean_left((1,))], [(0, 0), 1, (0,), (1, 1), (0, 1)])
        self.same([row_left((0,)), row_worth((0,)), row_wins((0,)), row_chance((0,)), row_mean_left((0,))], [(1, 1), 0, (), (0, 1), (1, 1)])

    def test_without_a_head(self):
        for many in (2, 17, 40):
            row = (0,) * many
            self.same([row_left(row), row_worth(row), row_wins(row)], [(many, many), 0, ()])
            self.same([row_chance(row), row_mean_left(row)], [(0, 1), (many, 1)])

    def test_a_single_head(self):
        # All coins are taken whatever is taken, so that the hands just count.
        for many in (39, 40):
            for place in (0, 1, 20, many - 1):
                row = (0,) * place + (1,) + (0,) * (many - 1 - place)
                self.same([row_left(row), row_worth(row)], [(0, 0), many % 2])
                self.same([row_wins(row), row_chance(row), row_mean_left(row)], [(place,) if many % 2 else (), (1, 1), (0, 1)])

    def test_heads_alone(self):
        self.same([row_left((1, 1)), row_worth((1, 1)), row_wins((1, 1))], [(1, 1), 1, (0, 1)])
        self.same([row_left((1, 1, 1)), row_chance((1, 1, 1)), row_mean_left((1, 1, 1))], [(0, 2), (2, 3), (2, 3)])
        self.same([row_left((1,) * 40)[0], row_chance((1,) * 40)], [1, (0, 1)])
        self.same(row_left((1,) * 39)[0], 0)

    def test_mirrored_rows(self):
        for row in LONG:
            other = row[::-1]
            self.same([row_left(other), row_worth(other), row_chance(other), row_mean_left(other)],
                      [row_left(row), row_worth(row), row_chance(row), row_mean_left(row)])
            self.same(row_wins(other), tuple(sorted(len(row) - 1 - place for place in row_wins(row))))


if __name__ == "__main__":
    unittest.main()
