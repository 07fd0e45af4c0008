"""The names and arguments that the interface lists."""

TOLD = {
    "webs": """neighbours(web, place); parts(web); is_forest(web); is_tree(web); without(web, place); heads(web,
        laying); taken(web, laying, place); taken_all(web, laying, places)""",
    "layingtext": "write_laying(web, laying); read_laying(text)",
    "orders": """laying_of(web, order); clears(web, laying, order); can_clear(web, laying); order_count(web, laying);
        all_orders(web, laying); order_number(web, laying, order); order_at(web, laying, index); next_order(web,
        laying, order)""",
    "ways": """way_of(web, order); way_count(web); ways_for(web, laying); laying_count(web); least_laying(web);
        is_even(web, laying)""",
    "forests": """odd_way(web, laying); first_takes(web, laying); last_takes(web, laying); laying_of_way(web, way);
        forest_count(web, laying); edge_sides(web, laying, index)""",
    "states": """laying_behind(web, laying, state); ready(web, laying, state); safe_takes(web, laying, state);
        ways_on(web, laying, state); ways_to(web, laying, state); next_chances(web, laying, state)""",
    "lasts": """met_count(web, laying); last_states(web, laying); fewest_left(web, laying); most_left(web, laying);
        only_left(web, laying); is_sure(web, laying)""",
    "times": "time_chances(web, laying, place); mean_times(web, laying); ahead_chance(web, laying, one, other)",
    "turning": """fewest_turned(web, laying); cheapest_turn(web, laying, prices); shows_turn(web, laying, prices, value);
        turned_for(web, laying, order)""",
    "rows": """row_falls(row); row_of_falls(many, falls); row_count(row); row_first(row); row_number(row, order);
        row_at(row, index); greatest_row(many); rows_by_count(many)""",
    "rings": "ring_count(ring); ring_first(ring); ring_opened(ring, place)",
    "takers": """clear_chance(web, laying); mean_left(web, laying); take_chance(web, laying, order); place_chance(web,
        laying, place); weighted_clear(web, laying, weights); left_chances(web, laying); last_chances(web,
        laying)""",
    "hands": "worth(web, laying); last_hand(web, laying); winning_takes(web, laying)",
    "keepers": """keeper_wins(web, laying, is_first); left_value(web, laying, is_first); keeper_plan(web, laying,
        is_first); shows_plan(web, laying, is_first, value)""",
    "costs": """least_cost(web, laying, prices); mean_cost(web, laying, prices); cost_paper(web, laying, prices);
        shows_cost_paper(web, laying, prices, value)""",
    "swapping": """beside(web, order); swaps(web, one, other); order_parts(web, laying); same_laying(web, one, other);
        turned_pairs(web, one, other)""",
    "telling": """told_laying(web, told); third_order(web, told); shows_third(web, told, value); told_firsts(web, laying,
        firsts)""",
    "returning": """steps_between(web, laying, one, other); way_between(web, laying, one, other); joined_count(web, laying,
        state); farthest(web, laying, state); state_parts(web, laying)""",
    "rounds": """least_rounds(web, laying); rounds_plan(web, laying); shows_rounds(web, laying, value);
        forest_rounds(web, laying)""",
    "renaming": """renamings(web, laying); orders_alike(web, laying); least_form(web, laying); are_alike(one, other);
        places_alike(web, laying)""",
    "sights": """fit_count(web, sight); seen_orders(web, sight); least_fit(web, sight); sure_coins(web, sight);
        next_seen(web, sight)""",
    "longrows": "row_left(row); row_worth(row); row_wins(row); row_chance(row); row_mean_left(row)",
    "falls": """orders_by_falls(many); rows_by_falls(many); row_mirrored(row); row_turned(row, place); row_times(row,
        place)""",
    "longrings": """ring_left(ring); ring_worth(ring); ring_chance(ring); ring_mean_left(ring); ring_number(ring, order);
        ring_at(ring, index)""",
    "gaps": "gap_chances(web, laying, one, other); mean_gap(web, laying)",
    "leaves": "leafed(web, laying, place, coin); leaf_pair(web, laying, place)",
    "counting": "layings_by_count(web); most_orders(web); heads_by_count(web); tree_count(many); tree_orders(many)",
    "bearings": """is_way(web, way); way_orders(web, way); fewest_between(web, one, other); unsure_count(web);
        way_rank(web, way); way_turned(web, way); ways_of(web, laying); covers(web, way, one, other);
        earliest(web, way, place); latest(web, way, place); lines_of(web, way); widest(web, way)""",
}


# For each file the functions that it lists, each with its name and arguments as written there.
FUNCTIONS = {
    stem: {part.strip().partition("(")[0]: part.strip() for part in " ".join(told.split()).split(";")}
    for stem, told in TOLD.items()
}
ERRORS = """CoinError BadWeb BadLaying BadPlace BadOrder BadEdge NotForest BadIndex TooMany NotText InvalidText BadWay
    BadState BadPrices BadRow BadCount BadFalls BadRing BadWeights BadFlag BadTold BadPair BadSight BadCoin NotClear
    NothingToUndo NothingToRedo InvalidLine""".split()
DEFINED = {"errors": ERRORS, "desk": ["Desk"], **{stem: list(told) for stem, told in FUNCTIONS.items()}}
