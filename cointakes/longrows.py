"""Long rows: point 26."""

from cointakes.checks import check_row
from cointakes.hands import least_missing
from cointakes.ratios import ratio_mean, ratio_product, ratio_sum


def coin_in(row, start, end, place):
    """The coin of a place in a span, from start up to end, if the coins beside the span are taken."""
    turns = int(place == start and start > 0) + int(place == end - 1 and end < len(row))
    return (row[place] + turns) % 2


def span_heads(row):
    """For each span (start, end), shorter ones first, the places with heads up if the coins beside it are taken."""
    found = {}
    for size in range(len(row) + 1):
        for start in range(len(row) - size + 1):
            end = start + size
            found[start, end] = [place for place in range(start, end) if coin_in(row, start, end, place) == 1]
    return found


def span_values(row, joined):
    """For each span its value, joined from its size and, for each take, the pair of the values of the parts left."""
    values = {}
    # Both parts that a take leaves live apart, and the coins beside them are taken, so that they are spans, too.
    for (start, end), places in span_heads(row).items():
        pairs = [(values[start, place], values[place + 1, end]) for place in places]
        values[start, end] = joined(end - start, pairs)
    return values


def row_value(row, joined):
    """The value of a row, joined as in span_values."""
    return span_values(row, joined)[0, len(row)]


def fewest_of(size, pairs):
    """The least number of coins left at last."""
    return min([one + other for one, other in pairs], default=size)


def most_of(size, pairs):
    """The greatest number of coins left at last."""
    return max([one + other for one, other in pairs], default=size)


def worth_of(_, pairs):
    """The worth for two hands: worths of parts add without carry in twos."""
    return least_missing([one ^ other for one, other in pairs])


def chance_of(size, pairs):
    """The chance that a chance taker takes all coins."""
    if not pairs:
        return int(size == 0), 1
    # What a chance taker takes in one part does not depend on what it takes in the other one.
    return ratio_mean([ratio_product(one, other) for one, other in pairs])


def mean_of(size, pairs):
    """The mean number of coins that a chance taker leaves."""
    if not pairs:
        return size, 1
    return ratio_mean([ratio_sum([one, other]) for one, other in pairs])


def row_left(row):
    """The pair of the least and the greatest number of coins left at last, whatever is taken."""
    check_row(row)
    return row_value(row, fewest_of), row_value(row, most_of)


def row_worth(row):
    """The worth of a row for two hands."""
    check_row(row)
    return row_value(row, worth_of)


def row_wins(row):
    """The ascending tuple of the places that the first hand can take such that the other one cannot win."""
    check_row(row)
    worths = span_values(row, worth_of)
    up = [place for place, coin in enumerate(row) if coin == 1]
    return tuple([place for place in up if worths[0, place] == worths[place + 1, len(row)]])


def row_chance(row):
    """The chance that a chance taker takes all coins of a row."""
    check_row(row)
    return row_value(row, chance_of)


def row_mean_left(row):
    """The mean number of coins that a chance taker leaves of a row."""
    check_row(row)
    return row_value(row, mean_of)
