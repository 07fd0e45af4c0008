"""Texts of layings: point 4."""

from cointakes.checks import MOST_PLACES, check_laying, check_web
from cointakes.errors import InvalidText, NotText

COINS = {"H": 1, "T": 0, ".": None}
SIGNS = {1: "H", 0: "T", None: "."}
DIGITS = "0123456789"
# Less than every edge: what stands ahead of the first one.
NO_EDGE = (-1, -1)


def coin_signs(laying):
    """The text of the coins of a laying."""
    return "".join([SIGNS[coin] for coin in laying])


def write_laying(web, laying):
    """The text of a web and a laying."""
    check_web(web)
    check_laying(web, laying)
    coins = coin_signs(laying)
    if not web[1]:
        return coins
    edges = " ".join([f"{low}-{high}" for low, high in web[1]])
    return f"{coins}: {edges}"


def read_laying(text):
    """The pair (web, laying) that a text names."""
    if not isinstance(text, str):
        raise NotText("not a string")
    coins, end = read_coins(text)
    edges = ()
    if end < len(text):
        edges = read_edges(text, end + 1, len(coins))
    return (len(coins), edges), coins


def read_coins(text):
    """The coins that a text begins with, and the index of the ":" behind them, or the length of the text."""
    coins = []
    for at, sign in enumerate(text):
        if sign == ":" and coins:
            return tuple(coins), at
        if sign in COINS and len(coins) < MOST_PLACES:
            coins.append(COINS[sign])
        elif sign != " ":
            raise InvalidText(at)
    if not coins:
        raise InvalidText(len(text))
    return tuple(coins), len(text)


def read_edges(text, start, many):
    """The edges from an index on, up to the end of the text."""
    edges = []
    at = start
    while at < len(text):
        if text[at] == " ":
            at += 1
            continue
        edges.append(read_edge(text, at, many, edges[-1] if edges else NO_EDGE))
        at += 3
        if text[at:at + 1] not in ("", " "):
            raise InvalidText(at)
    if not edges:
        raise InvalidText(len(text))
    return tuple(edges)


def read_edge(text, at, many, last):
    """The edge of two digits, parted by "-", at an index, behind a last one."""
    low = digit_at(text, at)
    # What can stand behind the first digit is not asked here: it stands if it is a place and no less than the last one.
    if low is None or low >= many or low < last[0]:
        raise InvalidText(at)
    if text[at + 1:at + 2] != "-":
        raise InvalidText(at + 1)
    high = digit_at(text, at + 2)
    if high is None or high >= many or high <= low:
        raise InvalidText(at + 2)
    # Only now that both digits make an edge it can be one that is not greater than the last one.
    if (low, high) <= last:
        raise InvalidText(at)
    return low, high


def digit_at(text, at):
    """The digit at an index, None if none stands there."""
    sign = text[at:at + 1]
    if sign == "" or sign not in DIGITS:
        return None
    return DIGITS.index(sign)
