import random
import unittest
from itertools import combinations, product
from math import factorial

import brute
from brute import COMPLETE, LONG_PATH, LOOSE, PATH, RING_OF_NINE, SINGLE, SQUARE, STAR, TRIANGLE
from cointakes.bearings import (
    covers, earliest, fewest_between, is_way, latest, lines_of, unsure_count, way_orders, way_rank, way_turned, ways_of, widest,
)
from cointakes.errors import BadLaying, BadPlace, BadWay, BadWeb
from cointakes.ways import laying_count, way_count, way_of, ways_for
from exact import ExactCase

AROUND = (
    (TRIANGLE, (0, 1, 0)), (TRIANGLE, (1, 0, 1)), (SQUARE, (0, 1, 0, 0)), (SQUARE, (1, 0, 1, 1)),
    (brute.TADPOLE, (0, 1, 0, 0)), (RING_OF_NINE, (0, 1) + (0,) * 7), (COMPLETE, (0, 1) + (0,) * 34),
)


def ways(web):
    return list(product((0, 1), repeat=len(web[1])))


def by_way(web):
    """For each way that has some the ascending list of its orders."""
    found = {}
    for order in brute.orders_of(web):
        found.setdefault(brute.way(web, order), []).append(order)
    return found


def directed(web, way):
    return [(b, a) if turn else (a, b) for (a, b), turn in zip(web[1], way)]


def rank(edges, place):
    return max((1 + rank(edges, first) for first, later in edges if later == place), default=0)


def ahead_pairs(web, orders):
    """The pairs of places of which the first one goes ahead in all orders."""
    pairs = [(a, b) for a in range(web[0]) for b in range(web[0]) if a != b]
    return {(a, b) for a, b in pairs if all(order.index(a) < order.index(b) for order in orders)}


def reaching_pairs(web, way):
    pairs = set(directed(web, way))
    for k in range(web[0]):
        pairs |= {(a, b) for a in range(web[0]) for b in range(web[0]) if (a, k) in pairs and (k, b) in pairs}
    return pairs


def partitions(places):
    """All partings of places into groups."""
    if not places:
        return [[]]
    found = []
    for groups in partitions(places[1:]):
        found.append([[places[0]]] + groups)
        found += [groups[:k] + [[places[0]] + groups[k]] + groups[k + 1:] for k in range(len(groups))]
    return found


def are_bound(pairs, group):
    return all((a, b) in pairs or (b, a) in pairs for a, b in combinations(group, 2))


def fewest_lines(many, pairs):
    return min(len(groups) for groups in partitions(list(range(many))) if all(are_bound(pairs, group) for group in groups))


def most_free(many, pairs):
    groups = [group for size in range(1, many + 1) for group in combinations(range(many), size)]
    return max(len(group) for group in groups if not any((a, b) in pairs or (b, a) in pairs for a, b in combinations(group, 2)))


def lines_by_matching(many, pairs):
    """Each place that has a next one in its row spares a row."""
    ahead = {}

    def has_next(place, seen):
        for other in range(many):
            if (place, other) in pairs and other not in seen:
                seen.add(other)
                if other not in ahead or has_next(ahead[other], seen):
                    ahead[other] = place
                    return True
        return False

    return many - sum(has_next(place, set()) for place in range(many))


class Ways(ExactCase):
    def test_small_webs(self):
        for web in brute.small_webs() + [brute.TADPOLE, SQUARE]:
            found = by_way(web)
            for way in ways(web):
                orders = found.get(way, [])
                self.same([is_way(web, way), way_orders(web, way)], [bool(orders), len(orders)])
                edges = directed(web, way)
                self.same(way_rank(web, way), tuple(rank(edges, place) for place in range(web[0])) if orders else None)
                self.same(way_turned(web, way), tuple(1 - turn for turn in way))

    def test_larger_webs(self):
        for web in (brute.SPIDER, brute.SEVERAL, brute.ring_of(6)):
            found = by_way(web)
            for way in ways(web):
                self.same([is_way(web, way), way_orders(web, way)], [way in found, len(found.get(way, []))])

    def test_without_edges(self):
        self.same([is_way(SINGLE, ()), way_orders(SINGLE, ()), way_rank(SINGLE, ()), way_turned(SINGLE, ())], [True, 1, (0,), ()])
        self.same([is_way(LOOSE, ()), way_orders(LOOSE, ()), way_rank(LOOSE, ()), way_turned(LOOSE, ())], [True, factorial(9), (0,) * 9, ()])
        self.same([fewest_between(LOOSE, (), ()), ways_of(LOOSE, (1,) * 9), ways_of(LOOSE, (1,) * 8 + (0,)), unsure_count(LOOSE)], [0, [()], [], 0])
        self.same([ways_of(SINGLE, (1,)), ways_of(SINGLE, (0,)), unsure_count(SINGLE)], [[()], [], 0])

    def test_edges_that_lead_around(self):
        for web, way in AROUND:
            self.same([is_way(web, way), way_orders(web, way), way_rank(web, way)], [False, 0, None])
            other = tuple(1 - turn for turn in way)
            self.same([way_turned(web, way), way_turned(web, other)], [other, way])
            self.same([fewest_between(web, way, other), fewest_between(web, way, way)], [len(way), 0])
            self.same([is_way(web, other), way_orders(web, other), way_rank(web, other)], [False, 0, None])

    def test_nine_places(self):
        self.same([way_orders(COMPLETE, (0,) * 36), way_rank(COMPLETE, (0,) * 36)], [1, tuple(range(9))])
        self.same([way_orders(COMPLETE, (1,) * 36), way_rank(COMPLETE, (1,) * 36)], [1, tuple(range(8, -1, -1))])
        self.same([way_orders(STAR, (0,) * 8), way_rank(STAR, (0,) * 8)], [factorial(8), (0,) * 8 + (1,)])
        self.same([way_orders(LONG_PATH, (0, 1) * 4), way_rank(LONG_PATH, (0, 1) * 4)], [7936, (0, 1) * 4 + (0,)])
        self.same(way_rank(LONG_PATH, (0,) * 8), tuple(range(9)))

    def test_fewest_between(self):
        for web in (PATH, TRIANGLE, SQUARE):
            for one in ways(web):
                for other in ways(web):
                    self.same(fewest_between(web, one, other), sum(a != b for a, b in zip(one, other)))

    def test_ways_of(self):
        for web in brute.some_webs():
            found = brute.by_laying(web)
            unsure = 0
            for laying, orders in found.items():
                wanted = sorted({brute.way(web, order) for order in orders})
                self.same(ways_of(web, laying), wanted)
                unsure += len(wanted) > 1
            self.same(unsure_count(web), unsure)

    def test_ways_of_nine_places(self):
        found = ways_of(COMPLETE, (1, 0) * 4 + (1,))
        self.same([len(found), found], [2880, sorted(set(found))])
        self.same(found[0], way_of(COMPLETE, (0, 1, 2, 3, 4, 5, 6, 7, 8)))
        found = ways_of(RING_OF_NINE, (1, 1) + (0,) * 7)
        self.same([len(found), found], [ways_for(RING_OF_NINE, (1, 1) + (0,) * 7), sorted(set(found))])
        self.same([unsure_count(COMPLETE), unsure_count(LONG_PATH), unsure_count(STAR)], [126, 0, 0])
        # Each laying of a ring that can be cleared has a way and that with all edges directed otherwise.
        self.same([unsure_count(RING_OF_NINE), laying_count(RING_OF_NINE), way_count(RING_OF_NINE)], [255, 255, 510])

    def test_lists_are_new(self):
        ways_of(TRIANGLE, (1, 1, 0)).clear()
        self.same(ways_of(TRIANGLE, (1, 1, 0)), [(0, 0, 1), (1, 1, 0)])


class Bearings(ExactCase):
    def check(self, web, way, orders):
        pairs = ahead_pairs(web, orders)
        for one in range(web[0]):
            times = [order.index(one) for order in orders]
            self.same([earliest(web, way, one), latest(web, way, one)], [min(times), max(times)])
            for other in range(web[0]):
                if one == other:
                    self.fails(BadPlace, {}, covers, web, way, one, other)
                else:
                    self.same(covers(web, way, one, other), (one, other) in pairs)
        self.same([lines_of(web, way), widest(web, way)], [fewest_lines(web[0], pairs), most_free(web[0], pairs)])

    def test_small_webs(self):
        for web in brute.small_webs() + [brute.TADPOLE, (5, ((0, 3), (0, 4), (1, 3), (2, 4)))]:
            for way, orders in by_way(web).items():
                self.check(web, way, orders)

    def test_six_places(self):
        for web in (brute.SPIDER, brute.SEVERAL, brute.ring_of(6)):
            for way, orders in list(by_way(web).items())[::5]:
                self.check(web, way, orders)

    def test_webs_of_many_places(self):
        chosen = random.Random(7)
        every = list(combinations(range(9), 2))
        for size in (4, 7, 8, 9, 10, 12, 14, 18, 24):
            for _ in range(6):
                web = (9, tuple(sorted(chosen.sample(every, size))))
                way = brute.way(web, tuple(chosen.sample(range(9), 9)))
                pairs = reaching_pairs(web, way)
                lines = lines_by_matching(9, pairs)
                self.same([lines_of(web, way), widest(web, way), most_free(9, pairs)], [lines] * 3)
                for one, other in ((0, 8), (3, 4), (8, 0), (5, 2)):
                    self.same(covers(web, way, one, other), (one, other) in pairs)
                    self.same(earliest(web, way, one), sum(later == one for _, later in pairs))
                    self.same(latest(web, way, one), 8 - sum(first == one for first, _ in pairs))

    def test_without_edges(self):
        self.same([earliest(SINGLE, (), 0), latest(SINGLE, (), 0), lines_of(SINGLE, ()), widest(SINGLE, ())], [0, 0, 1, 1])
        self.same([earliest(LOOSE, (), 4), latest(LOOSE, (), 4), lines_of(LOOSE, ()), widest(LOOSE, ())], [0, 8, 9, 9])
        self.same([covers(LOOSE, (), 0, 8), covers(LOOSE, (), 8, 0)], [False, False])
        self.fails(BadPlace, {}, covers, SINGLE, (), 0, 0)

    def test_nine_places(self):
        self.same([lines_of(COMPLETE, (0,) * 36), widest(COMPLETE, (0,) * 36)], [1, 1])
        self.same([lines_of(STAR, (0,) * 8), widest(STAR, (0,) * 8)], [8, 8])
        self.same([lines_of(LONG_PATH, (0, 1) * 4), widest(LONG_PATH, (0, 1) * 4)], [5, 5])
        self.same([covers(LONG_PATH, (0,) * 8, 0, 8), covers(LONG_PATH, (0,) * 8, 8, 0), covers(LONG_PATH, (0, 1) * 4, 0, 8)], [True, False, False])
        self.same([earliest(STAR, (0,) * 8, 8), latest(STAR, (0,) * 8, 8), earliest(STAR, (0,) * 8, 0), latest(STAR, (0,) * 8, 0)], [8, 8, 0, 7])

    def test_edges_that_lead_around(self):
        for web, way in AROUND:
            self.fails(BadWay, {}, covers, web, way, 0, 1)
            self.fails(BadWay, {}, earliest, web, way, 0)
            self.fails(BadWay, {}, latest, web, way, 0)
            self.fails(BadWay, {}, lines_of, web, way)
            self.fails(BadWay, {}, widest, web, way)
            # The way stands left of the places.
            for place in (-1, 9, True, None, "0"):
                self.fails(BadWay, {}, covers, web, way, place, 0)
                self.fails(BadWay, {}, covers, web, way, 0, place)
                self.fails(BadWay, {}, earliest, web, way, place)
                self.fails(BadWay, {}, latest, web, way, place)
            self.fails(BadWay, {}, covers, web, way, 1, 1)

    def test_ways_that_are_none(self):
        for way in (None, (), (0,), (0, 1, 0), (0, 2), (True, 0), [0, 1], "01", (0, None)):
            self.fails(BadWay, {}, is_way, PATH, way)
            self.fails(BadWay, {}, way_orders, PATH, way)
            self.fails(BadWay, {}, fewest_between, PATH, way, (0, 0))
            self.fails(BadWay, {}, fewest_between, PATH, (0, 0), way)
            self.fails(BadWay, {}, widest, PATH, way)
        self.fails(BadLaying, {"index": 0}, ways_of, TRIANGLE, (None, 1, 1))
        self.fails(BadWeb, {"index": None}, unsure_count, (0, ()))


if __name__ == "__main__":
    unittest.main()
