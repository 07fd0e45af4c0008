"""Wrong arguments: each one of each function, in each way that its point names."""

import unittest
from itertools import combinations

from cointakes import bearings, costs, counting, errors, falls, forests, gaps, hands, keepers, lasts, layingtext, leaves
from cointakes import longrings, longrows, orders, renaming, returning, rings, rounds, rows, sights, states, swapping
from cointakes import takers, telling, times, turning, ways, webs
from cointakes.desk import Desk
from exact import ExactCase
from interface import FUNCTIONS

WEB = (3, ((0, 1), (1, 2)))
ODD = (None, True, False, -1, 10, 2 ** 70, "", "web", "012", [], {}, {0: 1}, [0, 1, 2], ("0", "1", "2"), ((),), {"a": ()})


def plain(name, *values):
    return [(value, getattr(errors, name), {}) for value in values]


def at(name, index, *values):
    return [(value, getattr(errors, name), {"index": index}) for value in values]


NO_LAYINGS = (
    at("BadLaying", None, *ODD, (), (1, 1), (1, 1, 1, 1), [1, 1, 1], 7, "HTH")
    + at("BadLaying", 0, (2, 1, 1), (True, 1, 1), (False, 1, 1), ("1", 1, 1), (-1, 3, 4), ((1,), 1, 1), ([], None, {}))
    + at("BadLaying", 1, (1, 2, 1), (1, True, 1), (0, "H", 2), (0, {}, 1))
    + at("BadLaying", 2, (1, 1, 2), (1, 0, False), (0, 0, [1]))
)
# ("0", "1", "2") is a tuple of as many items.
NO_LAYINGS = [row for row in NO_LAYINGS if row[0] != ("0", "1", "2")] + at("BadLaying", 0, ("0", "1", "2"))

WRONG = {
    "web": (
        at("BadWeb", None, *ODD, 3, (), (3,), (3, (), ()), [3, ()], (3, []), (3, {}), (3, None), (3, "01"), (3, 0))
        + at("BadWeb", None, (0, ()), (10, ()), (-3, ()), (True, ()), (False, ()), ("3", ()), (None, ()), ((3,), ()))
        + at("BadWeb", None, (0, None), (3, [(0, 1)]), ((), 3), (2 ** 70, ()))
        + at("BadWeb", 0, (3, ((1, 0),)), (3, ((0, 0),)), (3, ((0, 3),)), (3, ((-1, 0),)), (3, ([0, 1],)), (3, (None,)))
        + at("BadWeb", 0, (3, ((0, True),)), (3, ((False, 1),)), (3, ((0, 1, 2),)), (3, ((0,),)), (3, ((),)), (3, ("01",)))
        + at("BadWeb", 0, (3, (("0", "1"),)), (3, ({0: 1},)), (3, (0, 1)), (1, ((0, 1),)), (3, ((0, None), (0, 0))))
        + at("BadWeb", 0, (9, ((0, 9),)), (9, ((3, 2), (0, 1), (0, 1))))
        + at("BadWeb", 1, (3, ((0, 1), (0, 1))), (3, ((0, 2), (0, 1))), (3, ((1, 2), (0, 1))), (3, ((0, 1), (1, 3))))
        + at("BadWeb", 1, (3, ((0, 1), 7)), (3, ((0, 1), (2, 1), (0, 1))), (3, ((0, 1), (1, True))))
        + at("BadWeb", 2, (3, ((0, 1), (1, 2), (0, 2))), (3, ((0, 1), (0, 2), (0, 2))), (3, ((0, 1), (0, 2), [1, 2])))
    ),
    "laying": NO_LAYINGS,
    "full": (
        NO_LAYINGS
        + at("BadLaying", 0, (None, 1, 1), (None, None, None), (None, 5, 1))
        + at("BadLaying", 1, (1, None, 1), (1, None, 5)) + at("BadLaying", 2, (1, 1, None))
    ),
    "place": plain("BadPlace", *ODD, 3, (), (0,), "0", [0]),
    "places": plain("BadPlace", *ODD, 0, (3,), (0, -1), (True,), (0, False), (0, None), ("0",), [0], ((0,),), "0", {0: 0}),
    "order": (
        plain("BadOrder", *ODD, 0, (), (0, 1), (0, 1, 1), (0, 1, 3), (1, 2, 3), (0, 1, 2, 2), (0, 1, 2, 3))
        + plain("BadOrder", (0, True, 2), (False, 1, 2), (-1, 0, 1), (0, 1, None), (0, 1, (2,)), [2, 1, 0], "012")
    ),
    "number": plain("BadIndex", *ODD, 2, (), (0,), "0", [0]),
    "edge": plain("BadEdge", *ODD, 2, (), (0,), (0, 1), "0", [0]),
    "way": plain("BadWay", *ODD, 0, (), (0,), (0, 1, 0), (0, 2), (2, 0), (-1, 0), (0, True), (False, 1), (0, None), [0, 1], "01"),
    "state": (
        plain("BadState", *ODD, 0, (3,), (-1,), (0, 3), (0, 0), (1, 0), (0, 2, 1), (0, 1, 1), (2, 1, 0), (0, 1, 2, 2))
        + plain("BadState", (True,), (0, True), (False, 1), (None,), ("0",), ((0,),), [0], [], "0")
    ),
    "prices": (
        plain("BadPrices", *ODD, 5, (), (1, 1), (1, 1, 1, 1), (1, 1, 1001), (-1, 1, 1), (1, 2 ** 70, 1), [1, 1, 1])
        + plain("BadPrices", (1, True, 1), (False, 1, 1), (1, 1, None), ("1", 1, 1), ((1,), 1, 1), "111")
    ),
    "weights": (
        plain("BadWeights", *ODD, 5, (), (1, 1), (1, 1, 1, 1), (1, 1, 101), (0, 1, 1), (1, -1, 1), (1, 2 ** 70, 1), [1, 1, 1])
        + plain("BadWeights", (1, True, 1), (False, 1, 1), (1, 1, None), ("1", 1, 1), ((1,), 1, 1), "111")
    ),
    "flag": plain("BadFlag", *[value for value in ODD if not isinstance(value, bool)], 0, 1, (), (True,), "True", [False]),
    "row": (
        plain("BadRow", *ODD, 0, 1, (), (2,), (-1,), (0, 1, 2), (True,), (1, False), (1, None), ("1",), (1, (1,)), (1, []))
        + plain("BadRow", [1], [1, 1, 1], "111", {1: 1}, (1,) * 41, (0,) * 100)
    ),
    "ring": (
        plain("BadRing", *ODD, 0, 3, (), (1,), (1, 1), (0, 0), (1, 1, 2), (-1, 1, 1), (True, 1, 1), (1, 1, False), (1, 1, None))
        + plain("BadRing", ("1", "1", "0"), (1, 1, (0,)), (1, [], 0), [1, 1, 0], "110", (1,) * 21, (0,) * 50)
    ),
    "head": plain("BadPlace", *ODD, 2, 3, 20, (), (0,), "0", [0]),
    "to_forty": plain("BadCount", *[value for value in ODD if value != 10], 0, -40, 41, (), (3,), [3], "3"),
    "to_nine": plain("BadCount", *ODD, 0, -9, (), (3,), [3], "3"),
    "to_six": plain("BadCount", *ODD, 0, 7, -6, 9, (), (3,), [3], "3"),
    "coin": plain("BadCoin", *[value for value in ODD if value is not None], None, 2, (), (0,), (1,), "0", "1", [1]),
    "falls": (
        plain("BadFalls", *ODD, 0, 1, (2,), (-1,), (0, 2), (0, 0), (1, 1), (1, 0), (0, 1, 1), (0, 1, 2), (True,), (0, True))
        + plain("BadFalls", (False, 1), (None,), ("0",), ((0,),), (0, []), [0], [], "0")
    ),
    "told": (
        plain("BadTold", *ODD, 0, (), (0, 1, 2), ((0, 1, 2), (0, 1, 2)), ((0, 2, 1), (0, 1, 2)), ((0, 1, 2), (0, 1)))
        + plain("BadTold", ((0, 1),), ((0, 1, 3),), ((0, 1, 1),), ((0, True, 2),), ((False, 1, 2),), ((0, 1, None),))
        + plain("BadTold", ([0, 1, 2],), [(0, 1, 2)], (((0,), 1, 2),), ("012",), (None,), ((0, 1, 2), None), {(0, 1, 2): 0})
        + plain("BadTold", ((0, 1, 2), (0, 2, 1), (1, 0, 2), (1, 2, 0), (2, 0, 1), (2, 1, 0), (2, 1, 0)), ({}, []))
    ),
    "firsts": (
        plain("BadPlace", *ODD, 0, (3,), (-1,), (0, 3), (0, 0), (0, 1, 0), (0, 1, 2, 2), (True,), (0, False), (0, None))
        + plain("BadPlace", ("0",), ((0,),), ([],), ({}, 0), [0], [], {}, "0", {0: 0})
    ),
    "sight": (
        plain("BadSight", *ODD, 0, (), (1, 1), (1, 1, 1, 1), [1, 1, 1], [None, None, None], "HTH", (2, 1, 1), (-1, None, None))
        + plain("BadSight", (True, 1, 1), (None, False, None), (None, None, "1"), (0, (1,), 1), (None, [], None), (0, 1, 2 ** 70))
    ),
    "pair": plain("BadPair", *ODD, 0, (), (WEB,), (WEB, (1, 1, 1), 0), [WEB, (1, 1, 1)], ((1, 1, 1), WEB), (None, None), "ab"),
    "text": plain("NotText", *[value for value in ODD if not isinstance(value, str)], 0, (), ("H",), ["H"]),
}
WRONG["pair"] += plain("BadPair", *[(row[0], (1, 1, 1)) for row in WRONG["web"]], *[(WEB, row[0]) for row in WRONG["full"]])
RIGHT = {
    "web": WEB, "laying": (1, 1, 1), "full": (1, 1, 1), "place": 0, "places": (0, 2), "order": (0, 2, 1), "number": 0,
    "text": "HTH: 0-1 1-2", "edge": 1, "way": (0, 1), "state": (0, 2), "prices": (0, 1000, 7), "value": (0, (1, 1, 1)),
    "other": 2, "weights": (1, 100, 7), "flag": True, "row": (1, 1, 1), "ring": (1, 1, 0), "head": 1, "to_forty": 3,
    "to_nine": 3, "falls": (1,), "told": ((0, 2, 1), (1, 0, 2)), "firsts": (2, 0), "next_state": (1,),
    "next_order": (2, 0, 1), "sight": (1, None, 0), "pair": (WEB, (1, 0, 0)), "next_pair": ((2, ()), (1, 0)),
    "coin": 0, "to_six": 3, "next_way": (1, 1), "line": "take 2",
}
WRONG["other"] = WRONG["place"]
WRONG["next_state"] = WRONG["state"]
WRONG["next_order"] = WRONG["order"]
WRONG["next_pair"] = WRONG["pair"]
WRONG["next_way"] = WRONG["way"]
WRONG["line"] = WRONG["text"]
# Each value is judged, so that none of them is wrong.
WRONG["value"] = []


def new_desk(web, laying):
    desk = Desk(web, laying)
    return desk.laying, desk.steps


def run_at_desk(web, laying, text):
    desk = Desk(web, laying)
    return desk.run(text), desk.laying, desk.steps


CALLS = (
    (webs.neighbours, "web place"),
    (webs.parts, "web"),
    (webs.is_forest, "web"),
    (webs.is_tree, "web"),
    (webs.without, "web place"),
    (webs.heads, "web laying"),
    (webs.taken, "web laying place"),
    (webs.taken_all, "web laying places"),
    (layingtext.write_laying, "web laying"),
    (layingtext.read_laying, "text"),
    (orders.laying_of, "web order"),
    (orders.clears, "web full order"),
    (orders.order_count, "web full"),
    (orders.can_clear, "web full"),
    (orders.all_orders, "web full"),
    (orders.order_number, "web full order"),
    (orders.order_at, "web full number"),
    (orders.next_order, "web full order"),
    (ways.way_of, "web order"),
    (ways.way_count, "web"),
    (ways.ways_for, "web full"),
    (ways.laying_count, "web"),
    (ways.least_laying, "web"),
    (ways.is_even, "web full"),
    (forests.odd_way, "web full"),
    (forests.first_takes, "web full"),
    (forests.last_takes, "web full"),
    (forests.laying_of_way, "web way"),
    (forests.forest_count, "web full"),
    (forests.edge_sides, "web full edge"),
    (states.laying_behind, "web full state"),
    (states.ready, "web full state"),
    (states.ways_on, "web full state"),
    (states.ways_to, "web full state"),
    (states.safe_takes, "web full state"),
    (states.next_chances, "web full state"),
    (lasts.met_count, "web full"),
    (lasts.last_states, "web full"),
    (lasts.fewest_left, "web full"),
    (lasts.most_left, "web full"),
    (lasts.only_left, "web full"),
    (lasts.is_sure, "web full"),
    (times.time_chances, "web full place"),
    (times.mean_times, "web full"),
    (times.ahead_chance, "web full place other"),
    (turning.fewest_turned, "web full"),
    (turning.cheapest_turn, "web full prices"),
    (turning.shows_turn, "web full prices value"),
    (turning.turned_for, "web full order"),
    (rows.row_falls, "row"),
    (rows.row_of_falls, "to_forty falls"),
    (rows.row_count, "row"),
    (rows.row_first, "row"),
    (rows.row_number, "row order"),
    (rows.row_at, "row number"),
    (rows.greatest_row, "to_forty"),
    (rows.rows_by_count, "to_nine"),
    (rings.ring_count, "ring"),
    (rings.ring_first, "ring"),
    (rings.ring_opened, "ring head"),
    (takers.clear_chance, "web full"),
    (takers.left_chances, "web full"),
    (takers.mean_left, "web full"),
    (takers.last_chances, "web full"),
    (takers.take_chance, "web full order"),
    (takers.place_chance, "web full place"),
    (takers.weighted_clear, "web full weights"),
    (hands.worth, "web laying"),
    (hands.last_hand, "web laying"),
    (hands.winning_takes, "web laying"),
    (keepers.keeper_wins, "web full flag"),
    (keepers.left_value, "web full flag"),
    (keepers.keeper_plan, "web full flag"),
    (keepers.shows_plan, "web full flag value"),
    (costs.least_cost, "web full prices"),
    (costs.mean_cost, "web full prices"),
    (costs.cost_paper, "web full prices"),
    (costs.shows_cost_paper, "web full prices value"),
    (swapping.beside, "web order"),
    (swapping.swaps, "web order next_order"),
    (swapping.order_parts, "web full"),
    (swapping.same_laying, "web order next_order"),
    (swapping.turned_pairs, "web order next_order"),
    (telling.told_laying, "web told"),
    (telling.third_order, "web told"),
    (telling.shows_third, "web told value"),
    (telling.told_firsts, "web full firsts"),
    (returning.steps_between, "web full state next_state"),
    (returning.way_between, "web full state next_state"),
    (returning.joined_count, "web full state"),
    (returning.farthest, "web full state"),
    (returning.state_parts, "web full"),
    (rounds.least_rounds, "web full"),
    (rounds.rounds_plan, "web full"),
    (rounds.shows_rounds, "web full value"),
    (rounds.forest_rounds, "web full"),
    (renaming.renamings, "web laying"),
    (renaming.least_form, "web full"),
    (renaming.are_alike, "pair next_pair"),
    (renaming.orders_alike, "web full"),
    (renaming.places_alike, "web laying"),
    (sights.fit_count, "web sight"),
    (sights.least_fit, "web sight"),
    (sights.sure_coins, "web sight"),
    (sights.next_seen, "web sight"),
    (sights.seen_orders, "web sight"),
    (longrows.row_left, "row"),
    (longrows.row_worth, "row"),
    (longrows.row_wins, "row"),
    (longrows.row_chance, "row"),
    (longrows.row_mean_left, "row"),
    (falls.orders_by_falls, "to_forty"),
    (falls.rows_by_falls, "to_forty"),
    (falls.row_mirrored, "row"),
    (falls.row_turned, "row place"),
    (falls.row_times, "row place"),
    (longrings.ring_left, "ring"),
    (longrings.ring_worth, "ring"),
    (longrings.ring_chance, "ring"),
    (longrings.ring_mean_left, "ring"),
    (longrings.ring_number, "ring order"),
    (longrings.ring_at, "ring number"),
    (gaps.gap_chances, "web full place other"),
    (gaps.mean_gap, "web full"),
    (leaves.leafed, "web laying place coin"),
    (leaves.leaf_pair, "web full place"),
    (counting.layings_by_count, "web"),
    (counting.most_orders, "web"),
    (counting.heads_by_count, "web"),
    (counting.tree_count, "to_nine"),
    (counting.tree_orders, "to_six"),
    (new_desk, "web laying"),
    (run_at_desk, "web laying line"),
    (bearings.is_way, "web way"),
    (bearings.way_orders, "web way"),
    (bearings.way_rank, "web way"),
    (bearings.way_turned, "web way"),
    (bearings.fewest_between, "web way next_way"),
    (bearings.ways_of, "web full"),
    (bearings.unsure_count, "web"),
    (bearings.covers, "web way place other"),
    (bearings.earliest, "web way place"),
    (bearings.latest, "web way place"),
    (bearings.lines_of, "web way"),
    (bearings.widest, "web way"),
)
LOOSE = (9, ())
RING = (3, ((0, 1), (0, 2), (1, 2)))
NO_INDEX, BAD_WAY = [7, -1, True, None], [None, (), (0, 1), (0, 1, 2), [0, 1, 0]]
# Calls with an error that comes behind all others: what is right of them, and for the last argument what is wrong.
LAST_ERRORS = (
    (orders.all_orders, (LOOSE, (1,) * 9), "TooMany", 2000, []),
    (swapping.order_parts, (LOOSE, (1,) * 9), "TooMany", 2000, []),
    (swapping.swaps, (LOOSE, tuple(range(9)), tuple(range(9))), "TooMany", 2000, [(0, 1), tuple(range(8)) + (True,)]),
    (forests.odd_way, (RING, (1, 1, 0)), "NotForest", None, []),
    (forests.first_takes, (RING, (1, 1, 0)), "NotForest", None, []),
    (forests.last_takes, (RING, (0, 0, 0)), "NotForest", None, []),
    (forests.forest_count, (RING, (0, 0, 0)), "NotForest", None, []),
    (forests.laying_of_way, (RING, (0, 0, 0)), "NotForest", None, BAD_WAY),
    (forests.edge_sides, (RING, (0, 0, 0), 0), "NotForest", None, NO_INDEX),
    (rounds.forest_rounds, (RING, (0, 0, 0)), "NotForest", None, []),
    (falls.row_times, ((0,) * 13, 12), "TooMany", 12, [13, -1, True, None, "0"]),
    (gaps.gap_chances, (LOOSE, (0,) * 9, 0, 1), "TooMany", 7, [0, 9, True, None]),
    (gaps.mean_gap, (LOOSE, (0,) * 9), "TooMany", 7, []),
    (leaves.leafed, (LOOSE, (None,) * 9, 0, 1), "TooMany", 9, [2, True, None, "1"]),
    (leaves.leaf_pair, (RING, (1, 1, 0), 0), "NotForest", None, NO_INDEX),
    (leaves.leaf_pair, (RING, (0, 0, 0), 0), "NotForest", None, NO_INDEX),
    (leaves.leaf_pair, (WEB, (1, 1, 0), 0), "NotClear", None, NO_INDEX),
)


class WrongArguments(ExactCase):
    def test_right_ones_raise_nothing(self):
        for function, told in CALLS:
            arguments = [RIGHT[kind] for kind in told.split()]
            before = repr(arguments)
            first = function(*arguments)
            self.same(function(*arguments), first)
            self.assertEqual(repr(arguments), before)

    def test_each_wrong_one(self):
        for function, told in CALLS:
            kinds = told.split()
            for at_fault, kind in enumerate(kinds):
                for value, error, fields in WRONG[kind]:
                    arguments = [RIGHT[kind] for kind in kinds]
                    arguments[at_fault] = value
                    self.fails(error, fields, function, *arguments)

    def test_the_leftmost_of_several(self):
        for function, told in CALLS:
            kinds = told.split()
            for size in range(2, len(kinds) + 1):
                for wrong in combinations(range(len(kinds)), size):
                    self.several(function, kinds, wrong)

    def several(self, function, kinds, wrong):
        leftmost = kinds[wrong[0]]
        for value, error, fields in WRONG[leftmost]:
            for turn in range(6):
                arguments = [RIGHT[kind] for kind in kinds]
                for k in wrong:
                    values = [row[0] for row in WRONG[kinds[k]]] or ODD
                    arguments[k] = values[(5 * turn + k) % len(values)]
                arguments[wrong[0]] = value
                self.fails(error, fields, function, *arguments)

    def test_every_function_of_the_interface_is_called(self):
        called = {(function.__module__, function.__name__) for function, _ in CALLS}
        listed = {(f"cointakes.{stem}", name) for stem, told in FUNCTIONS.items() for name in told}
        self.assertEqual(called - {(__name__, "new_desk"), (__name__, "run_at_desk")}, listed)

    def test_errors_behind_all_others(self):
        for function, arguments, name, most, wrong in LAST_ERRORS:
            fields = {} if most is None else {"most": most}
            self.fails(getattr(errors, name), fields, function, *arguments)
            for value in wrong:
                with self.assertRaises(errors.CoinError) as caught:
                    function(*arguments[:-1], value)
                self.assertNotIn(caught.exception.__class__.__name__, ("TooMany", "NotForest", "NotClear"))
            for k, argument in enumerate(arguments):
                with self.assertRaises(errors.CoinError) as caught:
                    function(*arguments[:k], [argument], *arguments[k + 1:])
                self.assertNotIn(caught.exception.__class__.__name__, ("TooMany", "NotForest", "NotClear"))


if __name__ == "__main__":
    unittest.main()
