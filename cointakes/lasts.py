"""States that can be met, and the last ones of them: point 10."""

from cointakes.checks import check_full, check_web
from cointakes.masks import places_in
from cointakes.tables import ready_table, to_table


def met_count(web, laying):
    """The number of states that can be met."""
    check_web(web)
    check_full(web, laying)
    return len([ways for ways in to_table(ready_table(web, laying)) if ways > 0])


def last_states(web, laying):
    """The ascending tuple of the states that can be met and in which no coin can be taken."""
    check_web(web)
    check_full(web, laying)
    ready = ready_table(web, laying)
    to = to_table(ready)
    lasts = [state for state in range(len(ready)) if to[state] > 0 and ready[state] == 0]
    return tuple(sorted([tuple(places_in(state)) for state in lasts]))


def left_in(web, laying):
    """The pairs (number of coins left, state) of the last states, the states ascending."""
    return [(web[0] - len(state), state) for state in last_states(web, laying)]


def fewest_left(web, laying):
    """The pair of the least number of coins left at last, and the least such state."""
    return min(left_in(web, laying))


def most_left(web, laying):
    """The pair of the greatest number of coins left at last, and the least such state."""
    # Of equal numbers max takes the first one, which has the least state.
    return max(left_in(web, laying), key=lambda pair: pair[0])


def only_left(web, laying):
    """The ascending tuple of the places that can be the only ones with a coin left at last."""
    states = [state for left, state in left_in(web, laying) if left == 1]
    return tuple([place for place in range(web[0]) if any([place not in state for state in states])])


def is_sure(web, laying):
    """Whether all coins are taken at last whatever is taken."""
    return last_states(web, laying) == (tuple(range(web[0])),)
