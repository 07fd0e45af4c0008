"""Whether arguments are what the functions ask for, and the errors if they are not."""

from cointakes.errors import BadLaying, BadOrder, BadPlace, BadPrices, BadState, BadWay, BadWeb

MOST_PLACES = 9
MOST_PRICE = 1000


def is_between(value, low, high):
    """Whether a value is an integer from low to high."""
    return isinstance(value, int) and not isinstance(value, bool) and low <= value <= high


def is_tuple_of(value, many):
    """Whether a value is a tuple of so many items."""
    return isinstance(value, tuple) and len(value) == many


def is_bits(value, many):
    """Whether a value is a tuple of so many integers 0 or 1."""
    return is_tuple_of(value, many) and all([is_between(item, 0, 1) for item in value])


def is_edge(value, many):
    """Whether a value is a pair of places, the lesser one first."""
    if not is_tuple_of(value, 2):
        return False
    return is_between(value[0], 0, many - 1) and is_between(value[1], value[0] + 1, many - 1)


def check_web(web):
    """Raise BadWeb for a value that is no web."""
    if not is_tuple_of(web, 2) or not is_between(web[0], 1, MOST_PLACES) or not isinstance(web[1], tuple):
        raise BadWeb(None)
    many, edges = web
    for index, edge in enumerate(edges):
        if not is_edge(edge, many) or (index > 0 and edge <= edges[index - 1]):
            raise BadWeb(index)


def check_laying(web, laying):
    """Raise BadLaying for a value that is no laying of a web."""
    if not is_tuple_of(laying, web[0]):
        raise BadLaying(None)
    for index, coin in enumerate(laying):
        if coin is not None and not is_between(coin, 0, 1):
            raise BadLaying(index)


def check_full(web, laying):
    """Raise BadLaying for a value that is no full laying of a web."""
    if not is_tuple_of(laying, web[0]):
        raise BadLaying(None)
    for index, coin in enumerate(laying):
        if not is_between(coin, 0, 1):
            raise BadLaying(index)


def is_place(web, value):
    """Whether a value is a place of a web."""
    return is_between(value, 0, web[0] - 1)


def is_places(web, value):
    """Whether a value is a tuple of places of a web."""
    return isinstance(value, tuple) and all([is_place(web, item) for item in value])


def check_place(web, place):
    """Raise BadPlace for a value that is no place of a web."""
    if not is_place(web, place):
        raise BadPlace("not a place of the web")


def check_places(web, places):
    """Raise BadPlace for a value that is not a tuple of places of a web."""
    if not is_places(web, places):
        raise BadPlace("not a tuple of places of the web")


def check_order(web, order):
    """Raise BadOrder for a value that does not hold each place of a web once."""
    if not is_places(web, order) or sorted(order) != list(range(web[0])):
        raise BadOrder("not an order of all places of the web")


def check_state(web, state):
    """Raise BadState for a value that is not an ascending tuple of unlike places."""
    if not is_places(web, state):
        raise BadState("not a tuple of places of the web")
    for index in range(1, len(state)):
        if state[index - 1] >= state[index]:
            raise BadState("not ascending")


def check_way(web, way):
    """Raise BadWay for a value that does not hold 0 or 1 for each edge."""
    if not is_bits(way, len(web[1])):
        raise BadWay("not a tuple with 0 or 1 for each edge")


def check_prices(web, prices):
    """Raise BadPrices for a value that does not hold a price for each place."""
    if not is_tuple_of(prices, web[0]) or not all([is_between(price, 0, MOST_PRICE) for price in prices]):
        raise BadPrices("not a tuple with a price for each place")
