"""Coins that may be put back: point 22."""

from cointakes.checks import check_full, check_state, check_web
from cointakes.masks import mask_of, places_in
from cointakes.states import check_all
from cointakes.tables import ready_table


def check_both(web, laying, one, other):
    """Raise the error of the leftmost wrong argument."""
    check_all(web, laying, one)
    check_state(web, other)


def step_table(web, laying):
    """For each state the set of the places whose coins can be taken or put back."""
    ready = ready_table(web, laying)
    steps = list(ready)
    for state, heads in enumerate(ready):
        for place in places_in(heads):
            steps[state | 1 << place] |= 1 << place
    return steps


def steps_from(steps, start):
    """For each state to which there is a way the least number of steps."""
    found = {start: 0}
    fresh = [start]
    while fresh:
        further = []
        for state in fresh:
            for place in places_in(steps[state]):
                other = state ^ 1 << place
                if other not in found:
                    found[other] = found[state] + 1
                    further.append(other)
        fresh = further
    return found


def steps_between(web, laying, one, other):
    """The least number of steps from one state to another one, None if there is no way."""
    check_both(web, laying, one, other)
    return steps_from(step_table(web, laying), mask_of(one)).get(mask_of(other))


def way_between(web, laying, one, other):
    """The least tuple of the places of so few steps, None if there is no way."""
    check_both(web, laying, one, other)
    steps = step_table(web, laying)
    # Steps lead back as they lead there.
    left = steps_from(steps, mask_of(other))
    state = mask_of(one)
    if state not in left:
        return None
    way = []
    while left[state] > 0:
        nearer = [place for place in places_in(steps[state]) if left[state ^ 1 << place] < left[state]]
        way.append(nearer[0])
        state ^= 1 << nearer[0]
    return tuple(way)


def joined_count(web, laying, state):
    """The number of states to which there is a way, a state itself too."""
    check_all(web, laying, state)
    return len(steps_from(step_table(web, laying), mask_of(state)))


def farthest(web, laying, state):
    """The pair of the greatest least number of steps, and the ascending tuple of the states that are so far."""
    check_all(web, laying, state)
    found = steps_from(step_table(web, laying), mask_of(state))
    most = max(found.values())
    return most, tuple(sorted([tuple(places_in(other)) for other, number in found.items() if number == most]))


def state_parts(web, laying):
    """The ascending tuple of the numbers of states in all parts between which there are ways."""
    check_web(web)
    check_full(web, laying)
    steps = step_table(web, laying)
    seen = {}
    sizes = []
    for state in range(len(steps)):
        if state not in seen:
            part = steps_from(steps, state)
            seen.update(part)
            sizes.append(len(part))
    return tuple(sorted(sizes))
