"""Two hands that take in turn: point 17."""

from cointakes.checks import check_laying, check_web
from cointakes.masks import places_in
from cointakes.tables import ready_table


def worth_table(ready):
    """For each state the worth of what lies there."""
    worths = [0] * len(ready)
    for state in reversed(range(len(ready))):
        further = [worths[state | 1 << place] for place in places_in(ready[state])]
        worths[state] = least_missing(further)
    return worths


def least_missing(numbers):
    """The least integer from 0 on that is not among some."""
    number = 0
    while number in numbers:
        number += 1
    return number


def worth(web, laying):
    """The least integer from 0 on that is not the worth of a laying one take further."""
    check_web(web)
    check_laying(web, laying)
    return worth_table(ready_table(web, laying))[0]


def last_hand(web, laying):
    """Whether the hand that takes first can win."""
    return worth(web, laying) != 0


def winning_takes(web, laying):
    """The ascending tuple of the places whose take leaves the other hand without a win."""
    check_web(web)
    check_laying(web, laying)
    ready = ready_table(web, laying)
    worths = worth_table(ready)
    return tuple([place for place in places_in(ready[0]) if worths[1 << place] == 0])
