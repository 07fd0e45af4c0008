"""Webs and layings: points 2 and 3."""

from cointakes.checks import check_laying, check_place, check_places, check_web
from cointakes.errors import BadPlace
from cointakes.masks import near_masks, places_in, reached


def neighbours(web, place):
    """The ascending tuple of the places that share an edge with a place."""
    check_web(web)
    check_place(web, place)
    return tuple(places_in(near_masks(web)[place]))


def parts(web):
    """The ascending tuple of the parts, each the ascending tuple of its places."""
    check_web(web)
    near = near_masks(web)
    found = []
    seen = 0
    for place in range(web[0]):
        if not seen >> place & 1:
            part = reached(near, place, 0)
            seen |= part
            found.append(tuple(places_in(part)))
    return tuple(found)


def is_forest(web):
    """Whether no edges go round in a ring."""
    # Each edge that closes no ring joins two parts, so that there is one part less.
    return len(parts(web)) + len(web[1]) == web[0]


def is_tree(web):
    """Whether a web is a forest of one part."""
    return is_forest(web) and len(parts(web)) == 1


def without(web, place):
    """The web without a place and its edges."""
    check_web(web)
    check_place(web, place)
    many, edges = web
    if many == 1:
        raise BadPlace("the only place of the web")
    left = [(low, high) for low, high in edges if low != place and high != place]
    return many - 1, tuple([(low - (low > place), high - (high > place)) for low, high in left])


def heads(web, laying):
    """The ascending tuple of the places with heads up."""
    check_web(web)
    check_laying(web, laying)
    return tuple([place for place, coin in enumerate(laying) if coin == 1])


def lying_behind(near, laying, place):
    """The laying behind the take of a place with its head up; near holds the sets of neighbours."""
    coins = list(laying)
    coins[place] = None
    for other in places_in(near[place]):
        if laying[other] is not None:
            coins[other] = 1 - laying[other]
    return tuple(coins)


def taken(web, laying, place):
    """The laying behind a take."""
    check_web(web)
    check_laying(web, laying)
    check_place(web, place)
    if laying[place] != 1:
        raise BadPlace("no head up on this place")
    return lying_behind(near_masks(web), laying, place)


def taken_all(web, laying, places):
    """The laying behind takes one behind another, None if one of them cannot be done then."""
    check_web(web)
    check_laying(web, laying)
    check_places(web, places)
    near = near_masks(web)
    behind = laying
    for place in places:
        if behind[place] != 1:
            return None
        behind = lying_behind(near, behind, place)
    return behind
