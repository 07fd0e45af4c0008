"""Layings and trees counted: point 31."""

from math import factorial

from cointakes.checks import MOST_PLACES, check_count, check_web
from cointakes.masks import laying_with, places_in
from cointakes.tables import clear_counts, clear_masks

MOST_FOR_TREE_ORDERS = 6


def layings_by_count(web):
    """The ascending tuple of the pairs (count, number): how many full layings so many orders clear."""
    check_web(web)
    counts = clear_counts(web)
    numbers = {0: (1 << web[0]) - len(counts)}
    for count in counts.values():
        numbers[count] = numbers.get(count, 0) + 1
    return tuple(sorted(numbers.items()))


def most_orders(web):
    """The pair of the greatest number of orders that clear a full laying, and the least laying that has it."""
    check_web(web)
    counts = clear_counts(web)
    most = max(counts.values())
    return most, min([laying_with(heads, web[0]) for heads, count in counts.items() if count == most])


def heads_by_count(web):
    """The tuple of how many full layings with 0, 1, .. heads can be cleared."""
    check_web(web)
    numbers = [0] * (web[0] + 1)
    for heads in clear_masks(web):
        numbers[len(places_in(heads))] += 1
    return tuple(numbers)


def tree_count(many):
    """How many trees of so many places there are."""
    check_count(many, MOST_PLACES)
    count = 1
    for _ in range(many - 2):
        count *= many
    return count


def tree_orders(many):
    """The greatest number of orders that clear a laying of any tree of so many places."""
    check_count(many, MOST_FOR_TREE_ORDERS)
    # A leaf more multiplies the orders by the places that there are at most: it goes ahead of its neighbour, or behind
    # it. In a star whose middle goes last it does so each time.
    return factorial(many - 1)
