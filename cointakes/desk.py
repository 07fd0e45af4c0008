"""A desk: point 32."""

from cointakes.checks import check_laying, check_web, is_place
from cointakes.errors import InvalidLine, NothingToRedo, NothingToUndo, NotText
from cointakes.hands import worth
from cointakes.layingtext import coin_signs, digit_at
from cointakes.masks import lying_mask, near_masks
from cointakes.tables import ready_table, to_table
from cointakes.webs import heads, lying_behind


def behind_take(web, laying, place):
    """The laying behind the take of a coin, None without a head up."""
    return lying_behind(near_masks(web), laying, place) if laying[place] == 1 else None


def behind_turn(_, laying, place):
    """The laying with one coin turned over, None without a coin."""
    if laying[place] is None:
        return None
    return laying[:place] + (1 - laying[place],) + laying[place + 1:]


def behind_back(web, laying, place):
    """The laying behind a coin that is put on an empty place, None if a coin lies there."""
    if laying[place] is not None:
        return None
    behind = lying_behind(near_masks(web), laying, place)
    return behind[:place] + (1,) + behind[place + 1:]


def tell_coins(_, laying):
    """What lies there."""
    return coin_signs(laying)


def tell_heads(web, laying):
    """The places with heads up."""
    return " ".join([str(place) for place in heads(web, laying)]) or "none"


def tell_ways(web, laying):
    """In how many orders all coins can be taken."""
    return str(to_table(ready_table(web, laying))[lying_mask(laying)])


def tell_worth(web, laying):
    """The worth for two hands."""
    return str(worth(web, laying))


STEPS = {"take": behind_take, "turn": behind_turn, "back": behind_back}
QUESTIONS = {"lie": tell_coins, "heads": tell_heads, "ways": tell_ways, "worth": tell_worth}


def words_of(text):
    """The words of a text, parted by spaces."""
    return [word for word in text.split(" ") if word != ""]


def answer_to(web, laying, words):
    """The answer to a question."""
    if len(words) > 1:
        raise InvalidLine(2)
    told = QUESTIONS[words[0]]
    return told(web, laying)


def place_in(web, words):
    """The place that the second word names."""
    place = digit_at(words[1], 0) if len(words) > 1 and len(words[1]) == 1 else None
    if not is_place(web, place):
        raise InvalidLine(2)
    return place


def behind_step(web, laying, words):
    """The laying behind a step."""
    if not words or words[0] not in STEPS:
        raise InvalidLine(1)
    step = STEPS[words[0]]
    behind = step(web, laying, place_in(web, words))
    if behind is None:
        raise InvalidLine(2)
    if len(words) > 2:
        raise InvalidLine(3)
    return behind


class Desk:
    """Keeps a laying, at which steps are done and taken back, and questions answered."""

    def __init__(self, web, laying):
        check_web(web)
        check_laying(web, laying)
        self._web = web
        self._laying = laying
        # The steps that are done, with the layings ahead of them, and those taken back, with the layings behind them.
        self._done = []
        self._undone = []

    @property
    def laying(self):
        """The laying."""
        return self._laying

    @property
    def steps(self):
        """The texts of the steps that are done."""
        return tuple([text for text, _ in self._done])

    def run(self, text):
        """Do a step, or answer a question."""
        if not isinstance(text, str):
            raise NotText("not a string")
        words = words_of(text)
        if words and words[0] in QUESTIONS:
            return answer_to(self._web, self._laying, words)
        behind = behind_step(self._web, self._laying, words)
        self._done.append((text, self._laying))
        self._undone = []
        self._laying = behind
        return None

    def undo(self):
        """Take the last step back."""
        if not self._done:
            raise NothingToUndo("no step is done")
        text, ahead = self._done.pop()
        self._undone.append((text, self._laying))
        self._laying = ahead

    def redo(self):
        """Do the step again that was taken back last."""
        if not self._undone:
            raise NothingToRedo("no step was taken back")
        text, behind = self._undone.pop()
        self._done.append((text, self._laying))
        self._laying = behind
