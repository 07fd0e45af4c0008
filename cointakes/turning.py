"""Coins turned before the takes: point 12."""

from cointakes.checks import check_full, check_order, check_prices, check_web, is_between, is_bits, is_tuple_of
from cointakes.masks import laying_with
from cointakes.orders import laying_of
from cointakes.tables import clear_masks


def turned_places(laying, other):
    """The ascending tuple of the places with unlike coins in two full layings."""
    return tuple([place for place, coin in enumerate(laying) if coin != other[place]])


def turn_costs(web, laying, prices):
    """The list of the pairs (cost, laying) of all full layings that can be cleared."""
    targets = [laying_with(heads, web[0]) for heads in clear_masks(web)]
    return [(sum([prices[place] for place in turned_places(laying, target)]), target) for target in targets]


def fewest_turned(web, laying):
    """The least number of turned coins with which a full laying can be cleared."""
    check_web(web)
    check_full(web, laying)
    return min(turn_costs(web, laying, (1,) * web[0]))[0]


def cheapest_turn(web, laying, prices):
    """The pair of the least cost of turned coins, and the least full laying that it leads to."""
    check_web(web)
    check_full(web, laying)
    check_prices(web, prices)
    return min(turn_costs(web, laying, prices))


def shows_turn(web, laying, prices, value):
    """Whether a value is a pair of the least cost and any full laying that can be cleared and costs so much."""
    check_web(web)
    check_full(web, laying)
    check_prices(web, prices)
    # True and False equal 1 and 0, so that the kinds have to be looked at first.
    if not is_tuple_of(value, 2) or not is_bits(value[1], web[0]):
        return False
    pairs = turn_costs(web, laying, prices)
    least = min(pairs)[0]
    return is_between(value[0], least, least) and value in pairs


def turned_for(web, laying, order):
    """The ascending tuple of the places whose coins have to be turned so that an order clears a full laying."""
    check_web(web)
    check_full(web, laying)
    check_order(web, order)
    return turned_places(laying, laying_of(web, order))
