"""Layings told in part: point 25."""

from cointakes.checks import check_sight, check_web
from cointakes.masks import head_mask, laying_with, lying_mask
from cointakes.tables import clear_masks, on_table, turned_table


def fits_of(web, sight):
    """The list of the full layings that can be cleared and have the coins of a sight, in no order."""
    heads = head_mask(sight)
    told = lying_mask(sight)
    return [laying_with(clear, web[0]) for clear in clear_masks(web) if clear & told == heads]


def fit_count(web, sight):
    """How many full layings that can be cleared have the coins of a sight."""
    check_web(web)
    check_sight(web, sight)
    return len(fits_of(web, sight))


def least_fit(web, sight):
    """The least full laying that can be cleared and has the coins of a sight, None without any."""
    check_web(web)
    check_sight(web, sight)
    return min(fits_of(web, sight), default=None)


def sure_coins(web, sight):
    """The sight with all coins told that are the same in all layings that fit, None without any."""
    check_web(web)
    check_sight(web, sight)
    fits = fits_of(web, sight)
    if not fits:
        return None
    first = fits[0]
    return tuple([coin if all([fit[place] == coin for fit in fits]) else None for place, coin in enumerate(first)])


def next_seen(web, sight):
    """The place to be seen next, so that few layings fit whatever is seen; None if all coins are told."""
    check_web(web)
    check_sight(web, sight)
    fits = fits_of(web, sight)
    pairs = []
    for place, coin in enumerate(sight):
        if coin is None:
            up = sum([fit[place] for fit in fits])
            pairs.append((max(up, len(fits) - up), place))
    return min(pairs)[1] if pairs else None


def seen_orders(web, sight):
    """How many orders clear any laying that fits."""
    check_web(web)
    check_sight(web, sight)
    told = lying_mask(sight)
    turned = turned_table(web, head_mask(sight))
    # Each order clears one laying alone, and a coin that is not told may be the one that lies head up in its turn.
    free = (1 << web[0]) - 1 - told
    return on_table([(heads | free) & ~state for state, heads in enumerate(turned)])[0]
