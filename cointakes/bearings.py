"""Orders by ways: points 33 and 34."""

from cointakes.checks import check_full, check_place, check_two_places, check_way, check_web
from cointakes.errors import BadWay
from cointakes.forests import later_masks
from cointakes.masks import laying_with, mask_of, places_in, reached
from cointakes.rounds import edges_from
from cointakes.tables import clear_masks, on_table, ready_table
from cointakes.ways import count_ways, group_signs


def backwards(way):
    """The way with all edges directed otherwise."""
    return tuple([1 - turn for turn in way])


def earlier_masks(web, way):
    """For each place the set of the neighbours that go ahead of it."""
    return later_masks(web, backwards(way))


def order_total(web, way):
    """How many orders have a way."""
    earlier = earlier_masks(web, way)
    firsts = []
    for state in range(1 << web[0]):
        left = [place for place in range(web[0]) if not state >> place & 1]
        firsts.append(mask_of([place for place in left if earlier[place] & ~state == 0]))
    return on_table(firsts)[0]


def check_bearing(web, way):
    """Raise the error of the leftmost wrong argument, BadWay also for a way whose edges lead around."""
    check_web(web)
    check_way(web, way)
    if order_total(web, way) == 0:
        raise BadWay("edges lead around")


def is_way(web, way):
    """Whether no edges lead around."""
    return way_orders(web, way) > 0


def way_orders(web, way):
    """How many orders have a way, 0 if its edges lead around."""
    check_web(web)
    check_way(web, way)
    return order_total(web, way)


def way_rank(web, way):
    """For each place the greatest number of edges one behind another that lead to it, None if they lead around."""
    if way_orders(web, way) == 0:
        return None
    earlier = earlier_masks(web, way)
    return tuple([edges_from(earlier, place) for place in range(web[0])])


def way_turned(web, way):
    """The way with all edges directed otherwise."""
    check_web(web)
    check_way(web, way)
    return backwards(way)


def fewest_between(web, one, other):
    """The number of edges that two ways direct otherwise."""
    check_web(web)
    check_way(web, one)
    check_way(web, other)
    return len([index for index, turn in enumerate(one) if turn != other[index]])


def turn_bits(web, state, place):
    """The bits of the edges along which a place goes ahead of a lesser one if it is taken in a state."""
    bits = 0
    for low, high in web[1]:
        # The first edge has the greatest bit, so that the numbers of ways ascend as the ways do.
        bits = 2 * bits + int(high == place and not state >> low & 1)
    return bits


def ways_of(web, laying):
    """The ascending list of all ways whose orders clear a full laying."""
    check_web(web)
    check_full(web, laying)
    ready = ready_table(web, laying)
    # For each state the ways to direct the edges between the places left, as numbers.
    found = [None] * len(ready)
    found[-1] = {0: True}
    for state in reversed(range(len(ready) - 1)):
        numbers = {}
        for place in places_in(ready[state]):
            bits = turn_bits(web, state, place)
            numbers.update({way | bits: True for way in found[state | 1 << place]})
        found[state] = numbers
    shifts = list(reversed(range(len(web[1]))))
    return [tuple([way >> shift & 1 for shift in shifts]) for way in sorted(found[0])]


def unsure_count(web):
    """The number of full layings that can be cleared by more than one way."""
    check_web(web)
    layings = [laying_with(heads, web[0]) for heads in clear_masks(web)]
    return len([laying for laying in layings if count_ways(web, ready_table(web, laying)) > 1])


def covers(web, way, one, other):
    """Whether one place goes ahead of another one in all orders that have a way."""
    check_bearing(web, way)
    check_two_places(web, one, other)
    return reached(later_masks(web, way), one, 0) >> other & 1 == 1


def earliest(web, way, place):
    """The least time of a place in the orders that have a way."""
    check_bearing(web, way)
    check_place(web, place)
    return len(places_in(reached(earlier_masks(web, way), place, 0))) - 1


def latest(web, way, place):
    """The greatest time of a place in the orders that have a way."""
    check_bearing(web, way)
    check_place(web, place)
    return web[0] - len(places_in(reached(later_masks(web, way), place, 0)))


def lines_of(web, way):
    """The least number of rows, each of places one behind another in all orders, into which all places part."""
    # Dilworth's theorem: so many as the places of which none goes ahead of another one.
    return widest(web, way)


def widest(web, way):
    """The greatest number of places of which none goes ahead of another one in all orders that have a way."""
    check_bearing(web, way)
    later = later_masks(web, way)
    earlier = earlier_masks(web, way)
    bound = [reached(later, place, 0) | reached(earlier, place, 0) for place in range(web[0])]
    groups = [group for group, sign in enumerate(group_signs(bound)) if sign != 0]
    return max([len(places_in(group)) for group in groups])
