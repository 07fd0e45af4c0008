"""Orders of one laying, and exchanges between them: point 20."""

from itertools import combinations

from cointakes.checks import check_full, check_order, check_web
from cointakes.errors import TooMany
from cointakes.masks import near_masks
from cointakes.orders import MOST_ORDERS, all_orders, laying_of, order_count
from cointakes.ways import way_of


def check_both(web, one, other):
    """Raise the error of the leftmost wrong argument."""
    check_web(web)
    check_order(web, one)
    check_order(web, other)


def beside(web, order):
    """The ascending tuple of the orders beside an order that clear the same laying."""
    check_web(web)
    check_order(web, order)
    near = near_masks(web)
    found = []
    for time in range(1, len(order)):
        one = order[time - 1]
        other = order[time]
        if not near[one] >> other & 1:
            found.append(order[:time - 1] + (other, one) + order[time + 1:])
    return tuple(sorted(found))


def swaps(web, one, other):
    """The least number of exchanges from one order to another one, None if there is no way."""
    check_both(web, one, other)
    laying = laying_of(web, one)
    if laying != laying_of(web, other):
        return None
    if order_count(web, laying) > MOST_ORDERS:
        raise TooMany(MOST_ORDERS)
    # No exchange turns an edge, so that the way stays. As long as two orders of one way are unlike, two places follow
    # one another in the first that go otherwise in the second, and so share no edge: an exchange turns this pair back.
    if way_of(web, one) != way_of(web, other):
        return None
    return turned_pairs(web, one, other)


def order_parts(web, laying):
    """The ascending tuple of the numbers of orders in all parts of the orders that clear a full laying."""
    check_web(web)
    check_full(web, laying)
    # Two orders are in one part just if they have the same way, as told in swaps.
    numbers = {}
    for order in all_orders(web, laying):
        way = way_of(web, order)
        numbers[way] = numbers.get(way, 0) + 1
    return tuple(sorted(numbers.values()))


def same_laying(web, one, other):
    """Whether two orders clear the same laying."""
    check_both(web, one, other)
    return laying_of(web, one) == laying_of(web, other)


def turned_pairs(web, one, other):
    """The number of pairs of places that go in unlike order in two orders."""
    check_both(web, one, other)
    turned = 0
    for low, high in combinations(range(web[0]), 2):
        if (one.index(low) < one.index(high)) != (other.index(low) < other.index(high)):
            turned += 1
    return turned
