"""Times of places in the orders that clear a laying: point 11."""

from cointakes.checks import check_full, check_place, check_two_places, check_web
from cointakes.masks import places_in
from cointakes.ratios import chances_of, ratio_of
from cointakes.tables import on_table, ready_table, to_table


def take_rows(web, laying):
    """Rows (state, place, number): how many orders that clear a full laying take a place in a state."""
    ready = ready_table(web, laying)
    to = to_table(ready)
    on = on_table(ready)
    rows = []
    for state, heads in enumerate(ready):
        for place in places_in(heads):
            rows.append((state, place, to[state] * on[state | 1 << place]))
    return rows


def time_table(web, laying):
    """For each place the list of the numbers of orders that take it at the times 0, 1, .."""
    counts = [[0] * web[0] for _ in range(web[0])]
    for state, place, number in take_rows(web, laying):
        counts[place][len(places_in(state))] += number
    return counts


def time_chances(web, laying, place):
    """The tuple of the chances of the times 0, 1, .. of a place, None if the laying cannot be cleared."""
    check_web(web)
    check_full(web, laying)
    check_place(web, place)
    return chances_of(time_table(web, laying)[place])


def mean_times(web, laying):
    """The tuple of the mean times of all places, None if the laying cannot be cleared."""
    check_web(web)
    check_full(web, laying)
    table = time_table(web, laying)
    total = sum(table[0])
    if total == 0:
        return None
    sums = [sum([time * count for time, count in enumerate(counts)]) for counts in table]
    return tuple([ratio_of(times, total) for times in sums])


def ahead_chance(web, laying, one, other):
    """The chance that a place goes before another one, None if the laying cannot be cleared."""
    check_web(web)
    check_full(web, laying)
    check_two_places(web, one, other)
    rows = [(state, number) for state, place, number in take_rows(web, laying) if place == one]
    total = sum([number for _, number in rows])
    if total == 0:
        return None
    ahead = sum([number for state, number in rows if not state >> other & 1])
    return ratio_of(ahead, total)
