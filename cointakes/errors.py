"""All errors of the program."""


class CoinError(ValueError):
    """The base class of all errors."""


class BadWeb(CoinError):
    """A value is no web; index is that of its first wrong edge, or None."""

    def __init__(self, index):
        super().__init__(f"not a web (edge {index})")
        self.index = index


class BadLaying(CoinError):
    """A value is no laying as asked for; index is that of its first wrong item, or None."""

    def __init__(self, index):
        super().__init__(f"not a laying (item {index})")
        self.index = index


class BadPlace(CoinError):
    """A value is no place, or none that may be named here."""


class BadOrder(CoinError):
    """A value is no order of all places."""


class BadEdge(CoinError):
    """A value is not the index of an edge."""


class NotForest(CoinError):
    """A web has a ring where a forest is asked for."""


class BadIndex(CoinError):
    """There is nothing with this number."""


class TooMany(CoinError):
    """There are more than most."""

    def __init__(self, most):
        super().__init__(f"more than {most}")
        self.most = most


class NotText(CoinError):
    """A value is not a string."""


class InvalidText(CoinError):
    """A text names no laying; place is the index of the first character that cannot stand."""

    def __init__(self, place):
        super().__init__(f"not the text of a laying (character {place})")
        self.place = place


class BadWay(CoinError):
    """A value does not direct each edge."""


class BadState(CoinError):
    """A value is not an ascending tuple of places."""


class BadPrices(CoinError):
    """A value is not a tuple with a price for each place."""


class BadRow(CoinError):
    """A value is not a row of coins."""


class BadCount(CoinError):
    """A value is not a number of coins or places as asked for."""


class BadFalls(CoinError):
    """A value is not an ascending tuple of falls."""


class BadRing(CoinError):
    """A value is not a ring of coins."""


class BadWeights(CoinError):
    """A value is not a tuple with a weight for each place."""


class BadFlag(CoinError):
    """A value is neither True nor False."""


class BadTold(CoinError):
    """A value is not an ascending tuple of told orders."""


class BadPair(CoinError):
    """A value is not a pair of a web and a full laying of it."""


class BadSight(CoinError):
    """A value is not a sight of the web."""


class BadCoin(CoinError):
    """A value is not a coin."""


class NotClear(CoinError):
    """A laying cannot be cleared where one that can be is asked for."""


class NothingToUndo(CoinError):
    """No step is left to be taken back."""


class NothingToRedo(CoinError):
    """No step was taken back that can be done again."""


class InvalidLine(CoinError):
    """A line for a desk is wrong; word is the number of the first word that cannot stand, from 1."""

    def __init__(self, word):
        super().__init__(f"not a line for a desk (word {word})")
        self.word = word
