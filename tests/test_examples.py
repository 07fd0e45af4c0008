"""The examples of the interface, word for word."""

import unittest

from cointakes.errors import CoinError

EXAMPLES = '''
>>> from cointakes.webs import heads, is_forest, neighbours, parts, taken, taken_all, without
>>> web, up = (3, ((0, 1), (1, 2))), (1, 1, 1)
>>> [neighbours(web, 1), parts((3, ((0, 2),))), is_forest(web), without(web, 0), heads(web, (1, None, 0)), taken(web, (0, 1, 0), 1), taken_all(web, up, (1, 0))]
[(0, 2), ((0, 2), (1,)), True, (2, ((0, 1),)), (0,), (1, None, 1), None]
>>> from cointakes.webs import parts
>>> parts((3, ((0, 2), (0, 1))))
raises BadWeb(index=1)
>>> from cointakes.layingtext import read_laying, write_laying
>>> [write_laying((3, ((0, 1), (1, 2))), (1, None, 0)), read_laying("T H :0-1")]
['H.T: 0-1 1-2', ((2, ((0, 1),)), (0, 1))]
>>> from cointakes.layingtext import read_laying
>>> read_laying("HT: 1-0")
raises InvalidText(place=6)
>>> from cointakes.orders import all_orders, clears, laying_of, next_order, order_at, order_count, order_number
>>> web, up = (3, ((0, 1), (1, 2))), (1, 1, 1)
>>> [laying_of(web, (1, 0, 2)), clears(web, up, (2, 0, 1)), order_count(web, up), all_orders(web, (0, 1, 0)), order_number(web, (0, 1, 0), (1, 2, 0)), order_at(web, up, 0), next_order(web, up, (0, 2, 1))]
[(0, 1, 0), True, 2, [(1, 0, 2), (1, 2, 0)], 1, (0, 2, 1), (2, 0, 1)]
>>> from cointakes.ways import is_even, laying_count, least_laying, way_count, way_of, ways_for
>>> web, ring = (3, ((0, 1), (1, 2))), (3, ((0, 1), (0, 2), (1, 2)))
>>> [way_of(web, (1, 0, 2)), way_count(web), laying_count(web), least_laying(web), way_count(ring), laying_count(ring), ways_for(ring, (1, 0, 1)), is_even(ring, (1, 1, 0))]
[(1, 0), 4, 4, (0, 0, 1), 6, 3, 2, True]
>>> from cointakes.forests import edge_sides, first_takes, forest_count, last_takes, laying_of_way, odd_way
>>> web, up = (3, ((0, 1), (1, 2))), (1, 1, 1)
>>> [odd_way(web, up), odd_way(web, (1, 1, 0)), first_takes(web, up), last_takes(web, up), laying_of_way(web, (0, 0)), forest_count(web, up), edge_sides(web, up, 0)]
[(0, 1), None, (0, 2), (1,), (1, 0, 0), 2, (1, 2)]
>>> from cointakes.states import laying_behind, next_chances, ready, safe_takes, ways_on, ways_to
>>> web, up = (3, ((0, 1), (1, 2))), (1, 1, 1)
>>> [laying_behind(web, up, (0,)), ready(web, up, (0,)), ways_on(web, up, (0,)), ways_to(web, up, (0, 2)), safe_takes(web, up, ()), next_chances(web, up, ())]
[(None, 0, 1), (2,), 1, 2, (0, 2), ((1, 2), (0, 1), (1, 2))]
>>> from cointakes.lasts import fewest_left, is_sure, last_states, met_count, most_left, only_left
>>> web, up = (3, ((0, 1), (1, 2))), (1, 1, 1)
>>> [met_count(web, up), last_states(web, up), fewest_left(web, up), most_left(web, up), only_left(web, (1, 1, 0)), is_sure(web, (1, 0, 0))]
[6, ((0, 1, 2), (1,)), (0, (0, 1, 2)), (2, (1,)), (0,), True]
>>> from cointakes.times import ahead_chance, mean_times, time_chances
>>> web, up = (3, ((0, 1), (1, 2))), (1, 1, 1)
>>> [time_chances(web, up, 0), mean_times(web, up), ahead_chance(web, up, 0, 1), mean_times(web, (1, 1, 0))]
[((1, 2), (1, 2), (0, 1)), ((1, 2), (2, 1), (1, 2)), (1, 1), None]
>>> from cointakes.turning import cheapest_turn, fewest_turned, shows_turn, turned_for
>>> web = (3, ((0, 1), (1, 2)))
>>> [fewest_turned(web, (1, 1, 0)), cheapest_turn(web, (1, 1, 0), (5, 2, 3)), shows_turn(web, (1, 1, 0), (5, 2, 2), (2, (1, 1, 1))), turned_for(web, (1, 1, 0), (1, 0, 2))]
[1, (2, (1, 0, 0)), True, (0,)]
>>> from cointakes.rows import greatest_row, row_at, row_count, row_falls, row_first, row_number, row_of_falls, rows_by_count
>>> [row_falls((1, 1, 1)), row_of_falls(3, (1,)), row_count((1, 1, 0, 1)), row_first((1, 1, 1)), row_number((1, 1, 1), (2, 0, 1)), row_at((0, 1, 0), 1), greatest_row(4), rows_by_count(3)]
[(1,), (1, 1, 1), 3, (0, 2), 1, (1, 2, 0), (5, (0, 1, 1, 1)), ((0, 4), (1, 2), (2, 2))]
>>> from cointakes.rings import ring_count, ring_first, ring_opened
>>> [ring_count((1, 1, 0)), ring_count((1, 1, 1, 1)), ring_first((1, 1, 0)), ring_opened((1, 1, 0), 0)]
[2, 8, (0, 1), (0, 1)]
>>> from cointakes.takers import clear_chance, left_chances, mean_left, place_chance, take_chance, weighted_clear
>>> web, up = (3, ((0, 1), (1, 2))), (1, 1, 1)
>>> [clear_chance(web, up), left_chances(web, up), mean_left(web, up), place_chance(web, up, 1), take_chance(web, up, (0, 2, 1)), weighted_clear(web, up, (1, 2, 1))]
[(2, 3), ((2, 3), (0, 1), (1, 3), (0, 1)), (2, 3), (1, 1), (1, 3), (1, 2)]
>>> from cointakes.hands import last_hand, winning_takes, worth
>>> web, up = (3, ((0, 1), (1, 2))), (1, 1, 1)
>>> [worth(web, up), winning_takes(web, up), worth(web, (1, 1, 0)), last_hand(web, (1, None, 1))]
[1, (0, 1, 2), 2, False]
>>> from cointakes.keepers import keeper_plan, keeper_wins, left_value, shows_plan
>>> web, up = (3, ((0, 1), (1, 2))), (1, 1, 1)
>>> [keeper_wins(web, up, True), left_value(web, up, False), keeper_plan(web, up, False), shows_plan(web, up, True, (((), 0), ((0, 2), 1)))]
[True, 2, None, True]
>>> from cointakes.costs import least_cost, mean_cost, shows_cost_paper
>>> web, up = (3, ((0, 1), (1, 2))), (1, 1, 1)
>>> paper = (((), 13), ((0,), 8), ((0, 1, 2), 0), ((0, 2), 6), ((2,), 16))
>>> [least_cost(web, up, (5, 2, 1)), mean_cost(web, up, (5, 2, 1)), shows_cost_paper(web, up, (5, 2, 1), paper)]
[(13, (0, 2, 1)), (15, 1), True]
>>> from cointakes.swapping import beside, order_parts, same_laying, swaps, turned_pairs
>>> web, up = (3, ((0, 1), (1, 2))), (1, 1, 1)
>>> [beside(web, (0, 2, 1)), swaps(web, (0, 2, 1), (2, 0, 1)), swaps(web, (0, 1, 2), (2, 1, 0)), order_parts(web, up), turned_pairs(web, (0, 1, 2), (2, 1, 0))]
[((2, 0, 1),), 1, None, (2,), 3]
>>> from cointakes.telling import shows_third, third_order, told_firsts, told_laying
>>> web, up = (3, ((0, 1), (1, 2))), (1, 1, 1)
>>> [told_laying(web, ((0, 2, 1), (2, 0, 1))), third_order(web, ((0, 2, 1),)), shows_third(web, ((0, 2, 1), (2, 0, 1)), None), told_firsts(web, up, (2,))]
[(1, 1, 1), (2, 0, 1), True, 1]
>>> from cointakes.returning import farthest, joined_count, state_parts, steps_between, way_between
>>> web, up = (3, ((0, 1), (1, 2))), (1, 1, 1)
>>> [steps_between(web, up, (), (0, 1, 2)), way_between(web, up, (0,), (2,)), joined_count(web, up, ()), farthest(web, up, ()), state_parts(web, up)]
[3, (0, 2), 6, (3, ((0, 1, 2),)), (1, 1, 6)]
>>> from cointakes.rounds import forest_rounds, least_rounds, shows_rounds
>>> web, up = (3, ((0, 1), (1, 2))), (1, 1, 1)
>>> [least_rounds(web, up), shows_rounds(web, up, ((0, 2), (1,))), forest_rounds(web, (1, 0, 0)), least_rounds(web, (1, 1, 0))]
[2, True, 3, None]
>>> from cointakes.renaming import are_alike, least_form, orders_alike, places_alike, renamings
>>> web, up = (3, ((0, 1), (1, 2))), (1, 1, 1)
>>> [renamings(web, up), orders_alike(web, up), places_alike(web, up), least_form(web, up), are_alike((web, (1, 0, 0)), (web, (0, 0, 1)))]
[2, 1, ((0, 2), (1,)), ((3, ((0, 1), (0, 2))), (1, 1, 1)), True]
>>> from cointakes.sights import fit_count, least_fit, next_seen, seen_orders, sure_coins
>>> web, none = (3, ((0, 1), (1, 2))), (None, None, None)
>>> [fit_count(web, none), least_fit(web, (1, 1, None)), sure_coins(web, (1, 1, None)), next_seen(web, (1, None, None)), seen_orders(web, none)]
[4, (1, 1, 1), (1, 1, 1), 1, 6]
>>> from cointakes.longrows import row_chance, row_left, row_mean_left, row_wins, row_worth
>>> [row_left((0, 1, 1, 0)), row_worth((1, 1, 0)), row_wins((1, 1, 1)), row_chance((1, 1, 1)), row_mean_left((1, 1, 1))]
[(2, 2), 2, (0, 1, 2), (2, 3), (2, 3)]
>>> from cointakes.falls import orders_by_falls, row_mirrored, row_times, row_turned, rows_by_falls
>>> [orders_by_falls(3), rows_by_falls(4), row_turned((1, 1, 1), 1), row_times((1, 1, 1), 0)]
[(1, 4, 1), (1, 3, 3, 1), ((0,), (0,)), ((1, 2), (1, 2), (0, 1))]
>>> from cointakes.longrings import ring_at, ring_chance, ring_left, ring_mean_left, ring_number, ring_worth
>>> [ring_left((1, 1, 1)), ring_worth((1, 1, 0)), ring_chance((1, 1, 0)), ring_number((1, 1, 0), (1, 2, 0)), ring_at((1, 1, 0), 0)]
[(2, 2), 1, (1, 1), 1, (0, 2, 1)]
>>> from cointakes.gaps import gap_chances, mean_gap
>>> web, up = (3, ((0, 1), (1, 2))), (1, 1, 1)
>>> [gap_chances(web, up, 0, 2), mean_gap(web, up)]
[((-1, (1, 2)), (1, (1, 2))), (4, 3)]
>>> from cointakes.leaves import leaf_pair, leafed
>>> web, up = (3, ((0, 1), (1, 2))), (1, 1, 1)
>>> [leafed(web, up, 1, 0), leaf_pair(web, up, 1), leaf_pair(web, up, 0)]
[((4, ((0, 1), (1, 2), (1, 3))), (1, 1, 1, 0)), (6, 2), (3, 5)]
>>> from cointakes.counting import heads_by_count, layings_by_count, most_orders, tree_count, tree_orders
>>> web = (3, ((0, 1), (1, 2)))
>>> [layings_by_count(web), most_orders(web), heads_by_count(web), tree_count(4), tree_orders(3)]
[((0, 4), (1, 2), (2, 2)), (2, (0, 1, 0)), (0, 3, 0, 1), 16, 2]
>>> from cointakes.desk import Desk
>>> desk = Desk((3, ((0, 1), (1, 2))), (1, 1, 1))
>>> [desk.run("ways"), desk.run("take 0"), desk.run("lie"), desk.run("heads"), desk.run("worth"), desk.run("back 0"), desk.laying, desk.undo(), desk.steps]
['2', None, '.TH', '2', '0', None, (1, 1, 1), None, ('take 0',)]
>>> from cointakes.bearings import earliest, is_way, latest, lines_of, way_orders, way_rank, ways_of, widest
>>> web, ring = (3, ((0, 1), (1, 2))), (3, ((0, 1), (0, 2), (1, 2)))
>>> [is_way(ring, (0, 1, 0)), way_orders(web, (0, 1)), way_rank(web, (0, 0)), ways_of(ring, (1, 1, 0)), earliest(web, (0, 1), 1), latest(web, (0, 1), 0), lines_of(web, (0, 1)), widest(web, (0, 1))]
[False, 2, (0, 1, 2), [(0, 0, 1), (1, 1, 0)], 2, 1, 2, 2]
'''


def told(error):
    """An error as the document tells it."""
    fields = ", ".join(f"{name}={value!r}" for name, value in vars(error).items())
    return f"raises {error.__class__.__name__}({fields})"


def answer(line, names):
    """What a line of an example shows, None for one that shows nothing."""
    try:
        code = compile(line, "example", "eval")
    except SyntaxError:
        exec(line, names)
        return None
    try:
        return repr(eval(code, names))
    except CoinError as error:
        return told(error)


class Examples(unittest.TestCase):
    def test_examples(self):
        names = {}
        lines = EXAMPLES.strip().splitlines()
        shown = None
        for line in lines:
            if line.startswith(">>> "):
                self.assertIsNone(shown, line)
                shown = answer(line.removeprefix(">>> "), names)
            else:
                self.assertEqual(shown, line)
                shown = None
        self.assertIsNone(shown)


if __name__ == "__main__":
    unittest.main()
