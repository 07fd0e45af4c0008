"""Costs of orders: point 19."""

from cointakes.checks import check_full, check_prices, check_web, is_by_state, is_integer
from cointakes.masks import mask_of, places_in
from cointakes.ratios import ratio_of
from cointakes.tables import on_table, ready_table, to_table
from cointakes.times import take_rows


def check_all(web, laying, prices):
    """Raise the error of the leftmost wrong argument."""
    check_web(web)
    check_full(web, laying)
    check_prices(web, prices)


def take_cost(prices, state, place):
    """What the coin of a place costs if it is taken in a state."""
    return prices[place] * (len(places_in(state)) + 1)


def cost_table(ready, prices):
    """For each state the least sum of costs of the coins left, None if they cannot all be taken."""
    costs = [None] * len(ready)
    costs[-1] = 0
    for state in reversed(range(len(ready) - 1)):
        pairs = [(place, costs[state | 1 << place]) for place in places_in(ready[state])]
        sums = [take_cost(prices, state, place) + rest for place, rest in pairs if rest is not None]
        costs[state] = min(sums, default=None)
    return costs


def least_cost(web, laying, prices):
    """The pair of the least sum of costs, and the least order that has it; None if no order clears the laying."""
    check_all(web, laying, prices)
    ready = ready_table(web, laying)
    costs = cost_table(ready, prices)
    if costs[0] is None:
        return None
    order = []
    state = 0
    while len(order) < web[0]:
        for place in places_in(ready[state]):
            rest = costs[state | 1 << place]
            if rest is not None and take_cost(prices, state, place) + rest == costs[state]:
                break
        order.append(place)
        state |= 1 << place
    return costs[0], tuple(order)


def mean_cost(web, laying, prices):
    """The mean of the sums of costs of all orders that clear a full laying, None without any."""
    check_all(web, laying, prices)
    total = on_table(ready_table(web, laying))[0]
    if total == 0:
        return None
    rows = take_rows(web, laying)
    return ratio_of(sum([take_cost(prices, state, place) * number for state, place, number in rows]), total)


def paper_states(ready):
    """The ascending list of the states that can be met and have a way on."""
    to = to_table(ready)
    on = on_table(ready)
    return [state for state in range(len(ready)) if to[state] > 0 and on[state] > 0]


def cost_paper(web, laying, prices):
    """A tuple of pairs (state, value) that proves the least cost, None if no order clears the laying."""
    check_all(web, laying, prices)
    ready = ready_table(web, laying)
    costs = cost_table(ready, prices)
    if costs[0] is None:
        return None
    return tuple(sorted([(tuple(places_in(state)), costs[state]) for state in paper_states(ready)]))


def shows_cost_paper(web, laying, prices, value):
    """Whether a value is what cost_paper may return."""
    check_all(web, laying, prices)
    ready = ready_table(web, laying)
    least = cost_table(ready, prices)[0]
    if least is None:
        return value is None
    if not is_by_state(web, value) or not all([is_integer(item) for _, item in value]):
        return False
    values = {mask_of(state): item for state, item in value}
    if sorted(values) != paper_states(ready):
        return False
    return values[0] == least and values[len(ready) - 1] == 0 and is_below_all(ready, prices, values)


def is_below_all(ready, prices, values):
    """Whether no value is greater than the cost of a take and the value behind it together."""
    for state in values:
        for place in places_in(ready[state]):
            behind = state | 1 << place
            if behind in values and values[state] > values[behind] + take_cost(prices, state, place):
                return False
    return True
