"""The rules of the game once more, by trying everything: what the program is compared with."""

from itertools import combinations, permutations, product


def line(many):
    return (many, tuple((k, k + 1) for k in range(many - 1)))


def ring_of(many):
    return (many, tuple(sorted(tuple(sorted((k, (k + 1) % many))) for k in range(many))))


PATH = (3, ((0, 1), (1, 2)))
TRIANGLE = (3, ((0, 1), (0, 2), (1, 2)))
SQUARE = (4, ((0, 1), (0, 3), (1, 2), (2, 3)))
SINGLE = (1, ())
LONG_PATH = line(9)
STAR = (9, tuple((k, 8) for k in range(8)))
LOOSE = (9, ())
COMPLETE = (9, tuple(combinations(range(9), 2)))
RING_OF_NINE = ring_of(9)
SEVERAL = (6, ((0, 3), (1, 4), (2, 4)))
SPIDER = (6, ((0, 2), (1, 2), (2, 3), (3, 4), (3, 5)))
TADPOLE = (5, ((0, 1), (0, 2), (1, 2), (2, 3)))
# Pairs of a web and a laying that so many orders clear.
OF_2000 = (
    (9, ((0, 7), (1, 2), (1, 6), (1, 8), (2, 5), (3, 4), (3, 5), (3, 6), (3, 8), (4, 7), (5, 8), (6, 7))),
    (0, 0, 1, 1, 1, 0, 0, 0, 0),
)
OF_2001 = (
    (9, ((0, 2), (0, 3), (0, 5), (0, 6), (0, 8), (1, 3), (1, 5), (1, 6), (2, 3), (2, 4), (4, 6), (4, 7), (7, 8))),
    (0, 1, 1, 0, 0, 0, 0, 1, 1),
)


def all_webs(many):
    edges = list(combinations(range(many), 2))
    return [(many, chosen) for size in range(len(edges) + 1) for chosen in combinations(edges, size)]


def small_webs():
    return [web for many in (1, 2, 3, 4) for web in all_webs(many)]


def some_webs():
    return small_webs() + [SEVERAL, SPIDER, TADPOLE]


def full_layings(web):
    return list(product((0, 1), repeat=web[0]))


def any_layings(web):
    return list(product((0, 1, None), repeat=web[0]))


def near(web, place):
    return [b if a == place else a for a, b in web[1] if place in (a, b)]


def take(web, laying, place):
    """The laying behind a take, None if there is no head up."""
    if laying[place] != 1:
        return None
    coins = list(laying)
    coins[place] = None
    for other in near(web, place):
        if coins[other] is not None:
            coins[other] = 1 - coins[other]
    return tuple(coins)


def play(web, laying, places):
    for place in places:
        laying = take(web, laying, place)
        if laying is None:
            return None
    return laying


def orders_of(web):
    return list(permutations(range(web[0])))


def clearing(web, laying):
    return [order for order in orders_of(web) if play(web, laying, order) is not None]


def by_laying(web):
    """For each full laying the ascending list of the orders that clear it."""
    found = {laying: [] for laying in full_layings(web)}
    for order in orders_of(web):
        coins = [None] * web[0]
        for time, place in enumerate(order):
            ahead = set(near(web, place)) & set(order[:time])
            coins[place] = 1 if len(ahead) % 2 == 0 else 0
        found[tuple(coins)].append(order)
    return found


def way(web, order):
    return tuple(0 if order.index(a) < order.index(b) else 1 for a, b in web[1])


def has_ring(web):
    """Whether something is left when places with at most one edge are taken away again and again."""
    edges = set(web[1])
    while True:
        loose = [edge for edge in edges for place in edge if sum(place in other for other in edges) == 1]
        if not loose:
            return bool(edges)
        edges -= set(loose)


def parts(web):
    groups = [{place} for place in range(web[0])]
    for a, b in web[1]:
        one = next(group for group in groups if a in group)
        other = next(group for group in groups if b in group)
        if one is not other:
            groups.remove(other)
            one |= other
    return tuple(sorted(tuple(sorted(group)) for group in groups))


def states(web):
    return sorted(state for size in range(web[0] + 1) for state in combinations(range(web[0]), size))


def laying_in(web, laying, state):
    """The laying of a state, coin by coin."""
    coins = []
    for place, coin in enumerate(laying):
        turns = sum(other in state for other in near(web, place))
        coins.append(None if place in state else coin if turns % 2 == 0 else 1 - coin)
    return tuple(coins)
