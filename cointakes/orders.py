"""Orders: points 5 and 6."""

from cointakes.checks import check_full, check_order, check_web, is_between
from cointakes.errors import BadIndex, TooMany
from cointakes.masks import mask_of, near_masks, places_in
from cointakes.tables import on_table, ready_table

MOST_ORDERS = 2000


def laying_of(web, order):
    """The full laying that is cleared in an order."""
    check_web(web)
    check_order(web, order)
    near = near_masks(web)
    coins = [0] * web[0]
    for time, place in enumerate(order):
        ahead = places_in(near[place] & mask_of(order[:time]))
        coins[place] = 1 - len(ahead) % 2
    return tuple(coins)


def clears(web, laying, order):
    """Whether an order clears a full laying."""
    check_web(web)
    check_full(web, laying)
    check_order(web, order)
    return laying_of(web, order) == laying


def order_count(web, laying):
    """How many orders clear a full laying."""
    check_web(web)
    check_full(web, laying)
    return on_table(ready_table(web, laying))[0]


def can_clear(web, laying):
    """Whether an order clears a full laying."""
    return order_count(web, laying) > 0


def all_orders(web, laying):
    """The ascending list of all orders that clear a full laying."""
    check_web(web)
    check_full(web, laying)
    ready = ready_table(web, laying)
    on = on_table(ready)
    if on[0] > MOST_ORDERS:
        raise TooMany(MOST_ORDERS)
    return orders_from(ready, on, 0)


def orders_from(ready, on, state):
    """The ascending list of the orders in which all coins left in a state can be taken."""
    if state == len(ready) - 1:
        return [()]
    found = []
    for place in places_in(ready[state]):
        behind = state | 1 << place
        if on[behind] > 0:
            found.extend([(place, *rest) for rest in orders_from(ready, on, behind)])
    return found


def order_number(web, laying, order):
    """The number of an order among those that clear a full laying, None for one that does not."""
    check_web(web)
    check_full(web, laying)
    check_order(web, order)
    ready = ready_table(web, laying)
    on = on_table(ready)
    number = 0
    state = 0
    for place in order:
        if not ready[state] >> place & 1:
            return None
        lesser = [other for other in places_in(ready[state]) if other < place]
        number += sum([on[state | 1 << other] for other in lesser])
        state |= 1 << place
    return number


def order_at(web, laying, index):
    """The order with a number among those that clear a full laying."""
    check_web(web)
    check_full(web, laying)
    ready = ready_table(web, laying)
    on = on_table(ready)
    if not is_between(index, 0, on[0] - 1):
        raise BadIndex("no order has this number")
    return order_from(ready, on, 0, index)


def order_from(ready, on, state, number):
    """The order with a number among those in which all coins left in a state can be taken."""
    places = []
    behind = state
    left = number
    while behind < len(ready) - 1:
        for place in places_in(ready[behind]):
            many = on[behind | 1 << place]
            if left < many:
                break
            left -= many
        places.append(place)
        behind |= 1 << place
    return tuple(places)


def next_order(web, laying, order):
    """The least order that clears a full laying and is greater than an order, None if there is none."""
    check_web(web)
    check_full(web, laying)
    check_order(web, order)
    ready = ready_table(web, laying)
    on = on_table(ready)
    best = None
    state = 0
    for time, place in enumerate(order):
        greater = [other for other in places_in(ready[state]) if other > place and on[state | 1 << other] > 0]
        if greater:
            # One that agrees with the order for longer is less, so that later ones replace earlier ones.
            best = order[:time] + (greater[0],) + order_from(ready, on, state | 1 << greater[0], 0)
        if not ready[state] >> place & 1:
            break
        state |= 1 << place
    return best
