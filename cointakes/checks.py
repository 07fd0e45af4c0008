"""Whether arguments are what the functions ask for, and the errors if they are not."""

from cointakes.errors import BadCoin, BadCount, BadFalls, BadFlag, BadLaying, BadOrder, BadPair, BadPlace, BadPrices
from cointakes.errors import BadRing, BadRow, BadSight, BadState, BadTold, BadWay, BadWeb, BadWeights

MOST_PLACES = 9
MOST_PRICE = 1000
MOST_TOLD = 12
MOST_WEIGHT = 100
MOST_IN_ROW = 40
LEAST_IN_RING = 3
MOST_IN_RING = 20


def is_integer(value):
    """Whether a value is an integer; True and False are none."""
    return isinstance(value, int) and not isinstance(value, bool)


def is_between(value, low, high):
    """Whether a value is an integer from low to high."""
    return is_integer(value) and low <= value <= high


def is_tuple_of(value, many):
    """Whether a value is a tuple of so many items."""
    return isinstance(value, tuple) and len(value) == many


def is_bits(value, many):
    """Whether a value is a tuple of so many integers 0 or 1."""
    return is_tuple_of(value, many) and all([is_between(item, 0, 1) for item in value])


def is_coins(value, low, high):
    """Whether a value is a tuple of low to high integers 0 or 1."""
    return isinstance(value, tuple) and low <= len(value) <= high and is_bits(value, len(value))


def is_rising(value, many):
    """Whether a value is an ascending tuple of unlike integers from 0 to many - 1."""
    if not isinstance(value, tuple) or not all([is_between(item, 0, many - 1) for item in value]):
        return False
    return are_rising(value)


def are_rising(items):
    """Whether each of some items is greater than the one before it."""
    return all([items[index - 1] < items[index] for index in range(1, len(items))])


def is_edge(value, many):
    """Whether a value is a pair of places, the lesser one first."""
    if not is_tuple_of(value, 2):
        return False
    return is_between(value[0], 0, many - 1) and is_between(value[1], value[0] + 1, many - 1)


def check_web(web):
    """Raise BadWeb for a value that is no web."""
    if not is_tuple_of(web, 2) or not is_between(web[0], 1, MOST_PLACES) or not isinstance(web[1], tuple):
        raise BadWeb(None)
    many, edges = web
    for index, edge in enumerate(edges):
        if not is_edge(edge, many) or (index > 0 and edge <= edges[index - 1]):
            raise BadWeb(index)


def check_laying(web, laying):
    """Raise BadLaying for a value that is no laying of a web."""
    if not is_tuple_of(laying, web[0]):
        raise BadLaying(None)
    for index, coin in enumerate(laying):
        if coin is not None and not is_between(coin, 0, 1):
            raise BadLaying(index)


def check_full(web, laying):
    """Raise BadLaying for a value that is no full laying of a web."""
    if not is_tuple_of(laying, web[0]):
        raise BadLaying(None)
    for index, coin in enumerate(laying):
        if not is_between(coin, 0, 1):
            raise BadLaying(index)


def check_pair(value):
    """Raise BadPair for a value that is not a pair of a web and a full laying of it."""
    if not is_tuple_of(value, 2):
        raise BadPair("not a pair")
    try:
        check_web(value[0])
        check_full(value[0], value[1])
    except (BadWeb, BadLaying):
        raise BadPair("not a web and a full laying of it") from None


def check_sight(web, sight):
    """Raise BadSight for a value that is no sight of a web."""
    if not is_tuple_of(sight, web[0]) or not all([coin is None or is_between(coin, 0, 1) for coin in sight]):
        raise BadSight("not a tuple with 0, 1 or None for each place")


def is_place(web, value):
    """Whether a value is a place of a web."""
    return is_between(value, 0, web[0] - 1)


def is_places(web, value):
    """Whether a value is a tuple of places of a web."""
    return isinstance(value, tuple) and all([is_place(web, item) for item in value])


def check_place(web, place):
    """Raise BadPlace for a value that is no place of a web."""
    if not is_place(web, place):
        raise BadPlace("not a place of the web")


def check_two_places(web, one, other):
    """Raise BadPlace for values that are not two unlike places of a web."""
    check_place(web, one)
    check_place(web, other)
    if one == other:
        raise BadPlace("the same place twice")


def check_places(web, places):
    """Raise BadPlace for a value that is not a tuple of places of a web."""
    if not is_places(web, places):
        raise BadPlace("not a tuple of places of the web")


def check_firsts(web, firsts):
    """Raise BadPlace for a value that is not a tuple of unlike places of a web."""
    if not is_places(web, firsts) or len(set(firsts)) < len(firsts):
        raise BadPlace("not a tuple of unlike places of the web")


def is_order(web, value):
    """Whether a value is a tuple of all places of a web, each once."""
    return is_places(web, value) and sorted(value) == list(range(web[0]))


def check_order(web, order):
    """Raise BadOrder for a value that does not hold each place of a web once."""
    if not is_order(web, order):
        raise BadOrder("not an order of all places of the web")


def check_told(web, told):
    """Raise BadTold for a value that is not an ascending tuple of 1 to 12 unlike orders."""
    if not isinstance(told, tuple) or not 1 <= len(told) <= MOST_TOLD:
        raise BadTold(f"not a tuple of 1 to {MOST_TOLD} orders")
    if not all([is_order(web, order) for order in told]) or not are_rising(told):
        raise BadTold("not ascending orders of the web")


def check_state(web, state):
    """Raise BadState for a value that is not an ascending tuple of unlike places."""
    if not is_rising(state, web[0]):
        raise BadState("not an ascending tuple of places of the web")


def is_by_state(web, value):
    """Whether a value is an ascending tuple of pairs, each of a state and anything else, each state once."""
    if not isinstance(value, tuple) or not all([is_tuple_of(item, 2) for item in value]):
        return False
    states = [item[0] for item in value]
    return all([is_rising(state, web[0]) for state in states]) and are_rising(states)


def check_way(web, way):
    """Raise BadWay for a value that does not hold 0 or 1 for each edge."""
    if not is_bits(way, len(web[1])):
        raise BadWay("not a tuple with 0 or 1 for each edge")


def check_prices(web, prices):
    """Raise BadPrices for a value that does not hold a price for each place."""
    if not is_tuple_of(prices, web[0]) or not all([is_between(price, 0, MOST_PRICE) for price in prices]):
        raise BadPrices("not a tuple with a price for each place")


def check_weights(web, weights):
    """Raise BadWeights for a value that does not hold a weight for each place."""
    if not is_tuple_of(weights, web[0]) or not all([is_between(weight, 1, MOST_WEIGHT) for weight in weights]):
        raise BadWeights("not a tuple with a weight for each place")


def check_coin(coin):
    """Raise BadCoin for a value that is neither 0 nor 1."""
    if not is_between(coin, 0, 1):
        raise BadCoin("neither 0 nor 1")


def check_flag(value):
    """Raise BadFlag for a value that is neither True nor False."""
    if not isinstance(value, bool):
        raise BadFlag("neither True nor False")


def check_row(row):
    """Raise BadRow for a value that is no row."""
    if not is_coins(row, 1, MOST_IN_ROW):
        raise BadRow(f"not a tuple of 1 to {MOST_IN_ROW} integers 0 or 1")


def check_ring(ring):
    """Raise BadRing for a value that is no ring."""
    if not is_coins(ring, LEAST_IN_RING, MOST_IN_RING):
        raise BadRing(f"not a tuple of {LEAST_IN_RING} to {MOST_IN_RING} integers 0 or 1")


def check_head(coins, place):
    """Raise BadPlace for a value that is no place with a head up of a row or a ring."""
    if not is_between(place, 0, len(coins) - 1) or coins[place] != 1:
        raise BadPlace("no place with a head up")


def check_count(many, most):
    """Raise BadCount for a value that is not an integer from 1 to most."""
    if not is_between(many, 1, most):
        raise BadCount(f"not an integer from 1 to {most}")


def check_falls(many, falls):
    """Raise BadFalls for a value that is not an ascending tuple of places of so many, the last one left out."""
    if not is_rising(falls, many - 1):
        raise BadFalls("not an ascending tuple of places ahead of the last one")
