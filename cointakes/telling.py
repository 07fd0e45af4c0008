"""Told orders, and the laying that they clear: point 21."""

from cointakes.checks import check_firsts, check_full, check_told, check_web, is_order
from cointakes.masks import mask_of
from cointakes.orders import laying_of, order_from
from cointakes.tables import on_table, ready_table
from cointakes.webs import taken_all


def told_laying(web, told):
    """The full laying that all told orders clear, None if there is none."""
    check_web(web)
    check_told(web, told)
    laying = laying_of(web, told[0])
    return laying if all([laying_of(web, order) == laying for order in told]) else None


def third_order(web, told):
    """An order that clears the laying of all told orders and is not told, None if there is none."""
    laying = told_laying(web, told)
    if laying is None:
        return None
    ready = ready_table(web, laying)
    on = on_table(ready)
    # Of one order more than there are told ones, one at least is not told.
    for index in range(min(on[0], len(told) + 1)):
        order = order_from(ready, on, 0, index)
        if order not in told:
            return order
    return None


def shows_third(web, told, value):
    """Whether a value is what third_order may return."""
    if third_order(web, told) is None:
        return value is None
    return is_order(web, value) and value not in told and laying_of(web, value) == laying_of(web, told[0])


def told_firsts(web, laying, firsts):
    """How many orders that clear a full laying begin with just some places, in this order."""
    check_web(web)
    check_full(web, laying)
    check_firsts(web, firsts)
    if taken_all(web, laying, firsts) is None:
        return 0
    return on_table(ready_table(web, laying))[mask_of(firsts)]
