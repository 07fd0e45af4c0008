"""Tables over all states of a web; a state is the set of its taken places, as in masks.py."""

from cointakes.masks import head_mask, lowest_in, lying_mask, near_masks, places_in


def turned_table(web, heads):
    """For each state the set of the places with heads up, as if all coins lay there still."""
    near = near_masks(web)
    turned = [heads]
    for state in range(1, 1 << web[0]):
        turned.append(turned[state & (state - 1)] ^ near[lowest_in(state)])
    return turned


def ready_table(web, laying):
    """For each state the set of the places with heads up; what is empty at first stays so in all states."""
    lying = lying_mask(laying)
    return [heads & lying & ~state for state, heads in enumerate(turned_table(web, head_mask(laying)))]


def on_table(ready):
    """For each state the number of orders in which all coins left can be taken."""
    on = [0] * len(ready)
    on[-1] = 1
    for state in reversed(range(len(ready) - 1)):
        on[state] = sum([on[state | 1 << place] for place in places_in(ready[state])])
    return on


def to_table(ready):
    """For each state the number of orders in which just its coins can be taken."""
    to = [0] * len(ready)
    to[0] = 1
    for state, heads in enumerate(ready):
        for place in places_in(heads):
            to[state | 1 << place] += to[state]
    return to


def clear_counts(web):
    """For the set of heads of each full laying that can be cleared the number of orders that clear it."""
    near = near_masks(web)
    found = [{0: 1}]
    for left in range(1, 1 << web[0]):
        counts = {}
        for place in places_in(left):
            turned = near[place] & left
            for behind, count in found[left ^ 1 << place].items():
                heads = (behind ^ turned) | 1 << place
                counts[heads] = counts.get(heads, 0) + count
        found.append(counts)
    return found[-1]


def clear_masks(web):
    """The ascending list of the sets of heads of all full layings that can be cleared."""
    return sorted(clear_counts(web))
