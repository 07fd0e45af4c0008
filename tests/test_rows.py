import unittest
from functools import lru_cache
from math import comb, factorial

import brute
from brute import line
from cointakes.errors import BadCount, BadFalls, BadIndex, BadOrder
from cointakes.rows import greatest_row, row_at, row_count, row_falls, row_first, row_number, row_of_falls, rows_by_count
from exact import ExactCase

MANY = (1, 2, 3, 4, 5, 6, 7)
DOWN = tuple(range(39, -1, -1))
UP_AND_DOWN = tuple(k % 2 for k in range(38)) + (0, 0)


def falls_of(order):
    return tuple(k for k in range(len(order) - 1) if order.index(k + 1) < order.index(k))


@lru_cache(maxsize=None)
def count_by_takes(coins):
    """How many orders clear a row with empty places, take by take."""
    if all(coin is None for coin in coins):
        return 1
    web = line(len(coins))
    behind = [brute.take(web, coins, place) for place in range(len(coins))]
    return sum(count_by_takes(other) for other in behind if other is not None)


def zigzags(many):
    """The number of orders that fall at every second place, by sums along the rows of a triangle."""
    row = [1]
    for _ in range(many):
        sums = [0]
        for number in reversed(row):
            sums.append(sums[-1] + number)
        row = sums
    return row[-1]


class Falls(ExactCase):
    def test_all_short_rows(self):
        for many in MANY:
            for row, orders in brute.by_laying(line(many)).items():
                self.check(row, orders)

    def check(self, row, orders):
        falls = {falls_of(order) for order in orders}
        self.assertLessEqual(len(falls), 1)
        self.same(row_falls(row), falls.pop() if falls else None)
        self.same(row_count(row), len(orders))
        self.same(row_first(row), tuple(sorted({order[0] for order in orders})))
        if orders:
            self.same(row_of_falls(len(row), row_falls(row)), row)

    def test_longer_rows(self):
        for up in range(0, 1 << 11, 7):
            row = tuple(up >> k & 1 for k in range(11))
            self.same(row_count(row), count_by_takes(row))

    def test_one_coin(self):
        self.same([row_falls((1,)), row_count((1,)), row_first((1,)), row_of_falls(1, ())], [(), 1, (0,), (1,)])
        self.same([row_falls((0,)), row_count((0,)), row_first((0,))], [None, 0, ()])

    def test_forty_coins_in_one_order(self):
        first, last = (1,) + (0,) * 39, (0,) * 39 + (1,)
        self.same([row_falls(first), row_count(first), row_first(first)], [(), 1, (0,)])
        self.same([row_falls(last), row_count(last), row_first(last)], [tuple(range(39)), 1, (39,)])
        self.same([row_of_falls(40, ()), row_of_falls(40, tuple(range(39)))], [first, last])

    def test_forty_coins_with_a_single_head(self):
        for place in range(40):
            row = (0,) * place + (1,) + (0,) * (39 - place)
            self.same(row_falls(row), tuple(range(place)))
            self.same(row_count(row), comb(39, place))
            self.same(row_first(row), (place,))

    def test_forty_coins_with_a_single_fall(self):
        for place in range(39):
            row = row_of_falls(40, (place,))
            self.same(row_falls(row), (place,))
            self.same(row_count(row), comb(40, place + 1) - 1)

    def test_forty_coins_that_cannot_be_cleared(self):
        for row in ((0,) * 40, (1,) * 40, (1,) + (0,) * 38 + (1,)):
            self.same([row_falls(row), row_count(row), row_first(row)], [None, 0, ()])

    def test_many_heads_of_a_long_row(self):
        self.same(row_first((1,) * 39), tuple(range(0, 39, 2)))
        self.same(row_falls((1,) * 39), tuple(range(1, 38, 2)))
        self.same(row_first((0, 1, 1, 0, 1) + (0,) * 35), (1, 4))

    def test_wrong_falls_for_so_many(self):
        self.same(row_of_falls(2, (0,)), (0, 1))
        self.fails(BadFalls, {}, row_of_falls, 1, (0,))
        self.fails(BadFalls, {}, row_of_falls, 2, (1,))
        self.fails(BadFalls, {}, row_of_falls, 40, (0, 39))
        self.fails(BadFalls, {}, row_of_falls, 40, tuple(range(39)) + (38,))
        self.fails(BadCount, {}, row_of_falls, 0, ())
        self.fails(BadCount, {}, row_of_falls, 41, ())


class Numbers(ExactCase):
    def test_all_short_rows(self):
        for many in MANY[:-1]:
            found = brute.by_laying(line(many))
            for row, orders in found.items():
                self.same([row_at(row, index) for index in range(len(orders))], orders)
                self.same([row_number(row, order) for order in orders], list(range(len(orders))))
                self.fails(BadIndex, {}, row_at, row, len(orders))
                self.fails(BadIndex, {}, row_at, row, -1)

    def test_orders_that_do_not_clear(self):
        for many in MANY[:-2]:
            for row, orders in brute.by_laying(line(many)).items():
                for order in brute.orders_of(line(many)):
                    if order not in orders:
                        self.same(row_number(row, order), None)

    def test_one_coin(self):
        self.same([row_number((1,), (0,)), row_at((1,), 0), row_number((0,), (0,))], [0, (0,), None])
        self.fails(BadIndex, {}, row_at, (1,), 1)
        self.fails(BadIndex, {}, row_at, (0,), 0)

    def test_forty_coins(self):
        web = line(40)
        rows = [greatest_row(40)[1], row_of_falls(40, (3, 4, 5, 20, 38)), (1,) * 7 + (0,) * 33, UP_AND_DOWN]
        for row in rows:
            count = row_count(row)
            last = None
            for index in sorted({0, count // 3, count // 2, count // 2 + 1, count - 2, count - 1}):
                order = row_at(row, index)
                self.same(row_number(row, order), index)
                self.assertIsNotNone(brute.play(web, row, order))
                self.assertTrue(last is None or last < order)
                last = order
            self.fails(BadIndex, {}, row_at, row, count)

    def test_the_last_order_of_forty_coins(self):
        self.same(row_number((0,) * 39 + (1,), DOWN), 0)
        self.same(row_at((0,) * 39 + (1,), 0), DOWN)
        self.same(row_number((1,) * 39 + (0,), DOWN), None)

    def test_order_of_another_length(self):
        self.fails(BadOrder, {}, row_number, (1,) * 40, tuple(range(39)))
        self.fails(BadOrder, {}, row_number, (1,) * 40, tuple(range(41)))
        self.fails(BadOrder, {}, row_number, (0,) * 40, tuple(range(1, 41)))


class Counts(ExactCase):
    def test_greatest_rows(self):
        for many in MANY + (8, 9, 10, 11):
            rows = [tuple(up >> k & 1 for k in range(many)) for up in range(1 << many)]
            counts = {row: row_count(row) for row in rows}
            most = max(counts.values())
            self.same(greatest_row(many), (most, min(row for row in rows if counts[row] == most)))

    def test_greatest_rows_up_to_forty(self):
        for many in range(1, 41):
            self.same(greatest_row(many)[0], zigzags(many))
        self.same(greatest_row(40)[1], (0,) + (1,) * 39)
        self.same(greatest_row(39)[1], (0,) + (1,) * 37 + (0,))
        self.same([greatest_row(1), greatest_row(2), greatest_row(3)], [(1, (1,)), (1, (0, 1)), (2, (0, 1, 0))])

    def test_rows_by_count(self):
        self.same(rows_by_count(1), ((0, 1), (1, 1)))
        for many in MANY:
            counts = [len(orders) for orders in brute.by_laying(line(many)).values()]
            self.same(rows_by_count(many), tuple((count, counts.count(count)) for count in sorted(set(counts))))

    def test_rows_by_count_of_nine(self):
        pairs = rows_by_count(9)
        self.same(pairs[0], (0, 256))
        self.same(pairs[-1], (7936, 2))
        self.same(sum(number for _, number in pairs), 512)
        self.same(sum(count * number for count, number in pairs), factorial(9))

    def test_wrong_counts(self):
        for value in (0, 41, True):
            self.fails(BadCount, {}, greatest_row, value)
        for value in (0, 10, True):
            self.fails(BadCount, {}, rows_by_count, value)


if __name__ == "__main__":
    unittest.main()
