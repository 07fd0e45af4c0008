"""Falls, and what else is told of rows: point 27."""

from math import comb

from cointakes.checks import MOST_IN_ROW, check_count, check_head, check_place, check_row
from cointakes.errors import TooMany
from cointakes.masks import near_masks
from cointakes.ratios import chances_of
from cointakes.rows import line_of
from cointakes.times import time_table
from cointakes.webs import lying_behind

MOST_FOR_TIMES = 12


def orders_by_falls(many):
    """The tuple of how many orders of so many places have 0, 1, .. falls."""
    check_count(many, MOST_IN_ROW)
    counts = [1]
    for size in range(2, many + 1):
        # A place more that goes last of all makes no new fall at the end of the row or within a fall, else one.
        kept = [(falls + 1) * count for falls, count in enumerate(counts)]
        more = [(size - 1 - falls) * count for falls, count in enumerate(counts)]
        counts = [one + other for one, other in zip(kept + [0], [0] + more)]
    return tuple(counts)


def rows_by_falls(many):
    """The tuple of how many rows of so many coins that can be cleared have 0, 1, .. falls."""
    check_count(many, MOST_IN_ROW)
    return tuple([comb(many - 1, falls) for falls in range(many)])


def row_mirrored(row):
    """The row from the other end."""
    check_row(row)
    return row[::-1]


def row_turned(row, place):
    """The pair of the rows left and right of a place with a head up behind its take."""
    check_row(row)
    check_head(row, place)
    behind = lying_behind(near_masks(line_of(len(row))), row, place)
    return behind[:place], behind[place + 1:]


def row_times(row, place):
    """The tuple of the chances of the times of a place in a row of few coins, None if it cannot be cleared."""
    check_row(row)
    line = line_of(len(row))
    check_place(line, place)
    if len(row) > MOST_FOR_TIMES:
        raise TooMany(MOST_FOR_TIMES)
    return chances_of(time_table(line, row)[place])
