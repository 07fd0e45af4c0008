"""A keeper, who wants all coins taken, against a thief: point 18."""

from cointakes.checks import check_flag, check_full, check_web, is_by_state, is_place
from cointakes.masks import mask_of, places_in
from cointakes.tables import ready_table


def check_all(web, laying, is_first):
    """Raise the error of the leftmost wrong argument."""
    check_web(web)
    check_full(web, laying)
    check_flag(is_first)


def is_keepers(state, is_first):
    """Whether the keeper has to take in a state."""
    return (len(places_in(state)) % 2 == 0) == is_first


def left_table(ready, is_first):
    """For each state how many coins are left at last if the keeper wants few and the thief many."""
    left = [0] * len(ready)
    for state in reversed(range(len(ready))):
        further = [left[state | 1 << place] for place in places_in(ready[state])]
        if not further:
            left[state] = len(places_in(len(ready) - 1 - state))
        else:
            left[state] = min(further) if is_keepers(state, is_first) else max(further)
    return left


def left_value(web, laying, is_first):
    """How many coins are left if the keeper wants few and the thief many."""
    check_all(web, laying, is_first)
    return left_table(ready_table(web, laying), is_first)[0]


def keeper_wins(web, laying, is_first):
    """Whether the keeper can have all coins taken at last."""
    return left_value(web, laying, is_first) == 0


def keeper_plan(web, laying, is_first):
    """A tuple of pairs (state, place) that tells what the keeper takes, None if the keeper cannot win."""
    check_all(web, laying, is_first)
    ready = ready_table(web, laying)
    left = left_table(ready, is_first)
    if left[0] > 0:
        return None
    plan = {}
    for state, heads in enumerate(ready):
        safe = [place for place in places_in(heads) if left[state | 1 << place] == 0]
        if safe:
            plan[state] = safe[0]
    asked = asked_states(ready, is_first, plan)
    return tuple(sorted([(tuple(places_in(state)), plan[state]) for state in asked]))


def states_under(ready, is_first, plan):
    """The ascending list of the states that can be met if the keeper takes as a plan tells, and else not at all."""
    is_met = [False] * len(ready)
    is_met[0] = True
    for state, heads in enumerate(ready):
        if is_met[state]:
            for place in places_in(heads):
                if not is_keepers(state, is_first) or plan.get(state) == place:
                    is_met[state | 1 << place] = True
    return [state for state in range(len(ready)) if is_met[state]]


def asked_states(ready, is_first, plan):
    """The ascending list of the states, met by a plan, at which the keeper has to take a coin."""
    states = states_under(ready, is_first, plan)
    return [state for state in states if is_keepers(state, is_first) and state < len(ready) - 1]


def is_winning(ready, is_first, plan):
    """Whether a plan that tells a place for each asked state leads to the last coin, whatever the thief takes."""
    for state in states_under(ready, is_first, plan):
        if state < len(ready) - 1:
            can_go_on = ready[state] >> plan[state] & 1 if is_keepers(state, is_first) else ready[state]
            if not can_go_on:
                return False
    return True


def shows_plan(web, laying, is_first, value):
    """Whether a value is what keeper_plan may return."""
    check_all(web, laying, is_first)
    ready = ready_table(web, laying)
    if left_table(ready, is_first)[0] > 0:
        return value is None
    if not is_by_state(web, value) or not all([is_place(web, place) for _, place in value]):
        return False
    plan = {mask_of(state): place for state, place in value}
    return sorted(plan) == asked_states(ready, is_first, plan) and is_winning(ready, is_first, plan)
