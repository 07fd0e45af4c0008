"""Rows: points 13 and 14."""

from itertools import accumulate
from math import comb

from cointakes.checks import MOST_IN_ROW, MOST_PLACES, check_count, check_falls, check_order, check_row, is_between
from cointakes.errors import BadIndex
from cointakes.masks import laying_with, near_masks
from cointakes.webs import lying_behind


def line_of(many):
    """The web of a row of so many coins, which may be more than other webs have."""
    return many, tuple([(place, place + 1) for place in range(many - 1)])


def row_falls(row):
    """The ascending tuple of the falls of all orders that clear a row, None if it cannot be cleared."""
    check_row(row)
    sums = list(accumulate(row))
    if sums[-1] % 2 == 0:
        return None
    return tuple([place for place, many in enumerate(sums) if many % 2 == 0])


def row_of_falls(many, falls):
    """The row of so many coins that orders with just these falls clear."""
    check_count(many, MOST_IN_ROW)
    check_falls(many, falls)
    # A place that goes behind one of its neighbours, but not behind both, has its tail up.
    return tuple([1 - int((place in falls) != (place > 0 and place - 1 not in falls)) for place in range(many)])


def row_count(row):
    """The number of orders that clear a row."""
    falls = row_falls(row)
    if falls is None:
        return 0
    # For each time of the last place so far, how many orders of the places so far have it.
    counts = [1]
    for place in range(len(row) - 1):
        before = list(accumulate([0] + counts))
        counts = [before[-1] - many for many in before] if place in falls else before
    return sum(counts)


def row_first(row):
    """The ascending tuple of the places that can go first."""
    check_row(row)
    up = [place for place, coin in enumerate(row) if coin == 1]
    return tuple(up[::2]) if len(up) % 2 == 1 else ()


def rows_left(coins):
    """The list of the rows that live apart between empty places."""
    rows = [[]]
    for coin in coins:
        if coin is None:
            rows.append([])
        else:
            rows[-1].append(coin)
    return [tuple(row) for row in rows if row]


def count_left(coins):
    """The number of orders in which all coins of a row with empty places can be taken."""
    count = 1
    many = 0
    for row in rows_left(coins):
        many += len(row)
        count *= comb(many, len(row)) * row_count(row)
    return count


def takes_of(near, coins):
    """The pairs (place, coins behind its take) of the places with heads up, ascending."""
    return [(place, lying_behind(near, coins, place)) for place, coin in enumerate(coins) if coin == 1]


def number_in(near, coins, order, counted):
    """The number of an order among those in which all coins can be taken, None if they cannot be taken in it.

    counted tells in how many orders all coins that are left can be taken.
    """
    number = 0
    left = coins
    for place in order:
        if left[place] != 1:
            return None
        number += sum([counted(behind) for other, behind in takes_of(near, left) if other < place])
        left = lying_behind(near, left, place)
    return number


def order_with(near, coins, number, counted):
    """The order with a number among those in which all coins can be taken; counted as in number_in."""
    order = []
    left = coins
    skipped = 0
    while len(order) < len(coins):
        for place, behind in takes_of(near, left):
            many = counted(behind)
            if number < skipped + many:
                break
            skipped += many
        order.append(place)
        left = behind
    return tuple(order)


def row_number(row, order):
    """The number of an order among those that clear a row, ascending, None if it does not."""
    check_row(row)
    line = line_of(len(row))
    check_order(line, order)
    return number_in(near_masks(line), row, order, count_left)


def row_at(row, index):
    """The order with a number among those that clear a row."""
    check_row(row)
    if not is_between(index, 0, row_count(row) - 1):
        raise BadIndex("no order has this number")
    return order_with(near_masks(line_of(len(row))), row, index, count_left)


def greatest_row(many):
    """The pair of the greatest number of orders that clear a row of so many coins, and the least such row."""
    check_count(many, MOST_IN_ROW)
    # No falls have more orders than every second place (Niven 1968); the row is less if the first one is a fall.
    row = row_of_falls(many, tuple(range(0, many - 1, 2)))
    return row_count(row), row


def rows_by_count(many):
    """The ascending tuple of the pairs (count, number): how many rows so many orders clear."""
    check_count(many, MOST_PLACES)
    numbers = {}
    for up in range(1 << many):
        count = row_count(laying_with(up, many))
        numbers[count] = numbers.get(count, 0) + 1
    return tuple(sorted(numbers.items()))
