import unittest
from functools import lru_cache
from math import comb, factorial
from time import monotonic

import brute
from brute import line
from cointakes.errors import BadCount, BadPlace, BadRow, TooMany
from cointakes.falls import orders_by_falls, row_mirrored, row_times, row_turned, rows_by_falls
from cointakes.ratios import ratio_of
from cointakes.rows import row_count, row_falls
from cointakes.times import time_chances
from exact import ExactCase


def all_rows(many):
    return brute.full_layings((many, ()))


def falls_of(order):
    return sum(order.index(k + 1) < order.index(k) for k in range(len(order) - 1))


@lru_cache(maxsize=None)
def time_counts(coins, place):
    """How many orders in which all coins left can be taken take a place behind 0, 1, .. others."""
    counts = [0] * len(coins)
    for other in range(len(coins)):
        further = brute.take(line(len(coins)), coins, other)
        if further is not None and other == place:
            counts[0] += ways_on(further)
        elif further is not None:
            later = time_counts(further, place)
            counts = [one + more for one, more in zip(counts, (0, *later))]
    return tuple(counts)


@lru_cache(maxsize=None)
def ways_on(coins):
    if all(coin is None for coin in coins):
        return 1
    further = [brute.take(line(len(coins)), coins, place) for place in range(len(coins))]
    return sum(ways_on(other) for other in further if other is not None)


class ByFalls(ExactCase):
    def test_orders(self):
        for many in range(1, 8):
            found = [falls_of(order) for order in brute.orders_of((many, ()))]
            self.same(orders_by_falls(many), tuple(found.count(k) for k in range(many)))

    def test_rows(self):
        for many in range(1, 11):
            found = [len(row_falls(row)) for row in all_rows(many) if row_falls(row) is not None]
            self.same(rows_by_falls(many), tuple(found.count(k) for k in range(many)))

    def test_one_and_forty(self):
        self.same([orders_by_falls(1), rows_by_falls(1)], [(1,), (1,)])
        orders = orders_by_falls(40)
        self.same([len(orders), sum(orders), orders[::-1]], [40, factorial(40), orders])
        # One fall: any times for the places up to it, but the 41 sets of times that make no fall.
        self.same([orders[0], orders[1], orders[39]], [1, 2 ** 40 - 41, 1])
        rows = rows_by_falls(40)
        self.same([len(rows), sum(rows), rows[20]], [40, 2 ** 39, comb(39, 20)])

    def test_wrong_counts(self):
        for value in (0, 41, -1, True, None, "3", (3,)):
            self.fails(BadCount, {}, orders_by_falls, value)
            self.fails(BadCount, {}, rows_by_falls, value)


class Mirrored(ExactCase):
    def test_rows(self):
        for many in (1, 2, 3, 4, 5):
            for row in all_rows(many):
                self.same(row_mirrored(row), tuple(row[many - 1 - k] for k in range(many)))
                self.same(row_count(row_mirrored(row)), row_count(row))
        self.same(row_mirrored((1,) + (0,) * 39), (0,) * 39 + (1,))


class Turned(ExactCase):
    def test_all_short_rows(self):
        for many in (1, 2, 3, 4, 5, 6):
            for row in all_rows(many):
                for place in range(many):
                    behind = brute.take(line(many), row, place)
                    if behind is None:
                        self.fails(BadPlace, {}, row_turned, row, place)
                    else:
                        self.same(row_turned(row, place), (behind[:place], behind[place + 1:]))

    def test_ends(self):
        self.same(row_turned((1,), 0), ((), ()))
        self.same([row_turned((1, 0), 0), row_turned((0, 1), 1)], [((), (1,)), ((1,), ())])
        self.same(row_turned((1,) * 40, 0), ((), (0,) + (1,) * 38))
        self.same(row_turned((1,) * 40, 39), ((1,) * 38 + (0,), ()))
        self.same(row_turned((1,) * 40, 20), ((1,) * 19 + (0,), (0,) + (1,) * 18))

    def test_places_of_no_head(self):
        for place in (-1, 3, 1, True, False, None, "0", (0,), 2 ** 70):
            self.fails(BadPlace, {}, row_turned, (1, 0, 1), place)


class Times(ExactCase):
    def test_all_rows_that_are_webs_too(self):
        for many in (1, 2, 3, 4, 5):
            for row, orders in brute.by_laying(line(many)).items():
                for place in range(many):
                    times = [order.index(place) for order in orders]
                    wanted = tuple(ratio_of(times.count(k), len(times)) for k in range(many)) if times else None
                    self.same(row_times(row, place), wanted)
        for row in all_rows(8)[::9] + all_rows(9)[::41]:
            for place in (0, 3, 7):
                self.same(row_times(row, place), time_chances(line(len(row)), row, place))

    def test_twelve_coins(self):
        for row in ((0,) + (1,) * 11, (1,) * 11 + (0,), (0, 1, 1, 0, 1, 0, 0, 1, 0, 0, 1, 0), (1, 0, 0, 1, 1, 1, 1, 0, 0, 0, 0, 0)):
            for place in (0, 5, 6, 11):
                counts = time_counts(row, place)
                total = sum(counts)
                self.same(row_times(row, place), tuple(ratio_of(count, total) for count in counts) if total else None)
        for place in range(12):
            wanted = tuple((int(time == 11 - place), 1) for time in range(12))
            self.same(row_times((0,) * 11 + (1,), place), wanted)

    def test_rows_that_cannot_be_cleared(self):
        self.same([row_times((0,), 0), row_times((1, 1), 1), row_times((0,) * 12, 11), row_times((1,) * 12, 3)], [None] * 4)

    def test_thirteen_coins(self):
        for row in ((1,) * 13, (0,) * 13, (1,) * 40):
            self.fails(TooMany, {"most": 12}, row_times, row, 0)
            self.fails(TooMany, {"most": 12}, row_times, row, len(row) - 1)

    def test_errors_ahead_of_too_many(self):
        for place in (-1, 13, True, None, "0"):
            self.fails(BadPlace, {}, row_times, (1,) * 13, place)
        self.fails(BadPlace, {}, row_times, (1,) * 12, 12)
        self.fails(BadRow, {}, row_times, (1,) * 41, 0)
        self.fails(BadRow, {}, row_times, (1,) * 12 + (True,), 99)

    def test_twelve_coins_come_soon(self):
        start = monotonic()
        row_times((0,) + (1,) * 10 + (0,), 6)
        self.assertLess(monotonic() - start, 5)


if __name__ == "__main__":
    unittest.main()
