"""Consoles: desks that are led, and asked, by lines of words."""

from commonanswer.common import common, sure_range
from commonanswer.costs import best, worst
from commonanswer.errors import (
    InvalidCosts, InvalidName, InvalidRow, InvalidStretch, InvalidText, NoPossible, NoSure, NothingToUndo,
)
from commonanswer.live import Desk
from commonanswer.possible import possible
from commonanswer.systems import is_name

MOST_DIGITS = 6


def is_number(word):
    """Whether a word is an integer in decimal digits without needless zeros, up to six of them."""
    digits = word.removeprefix("-")
    # Longer words are not looked into: Python makes no integers of very long ones.
    return len(digits) <= MOST_DIGITS and digits.isdecimal() and str(int(word)) == word


def are_numbers(words):
    """Whether words are one integer or more."""
    return len(words) > 0 and all([is_number(word) for word in words])


def is_nothing(words):
    """Whether there are no words."""
    return len(words) == 0


def is_one_name(words):
    """Whether words are a single name."""
    return len(words) == 1 and is_name(words[0])


def are_row(words):
    """Whether words are a name and an even number of integers behind it."""
    return is_one_name(words[:1]) and are_numbers(words[1:]) and len(words) % 2 == 1


def are_place_and_stretch(words):
    """Whether words are two names and two integers behind them."""
    return len(words) == 4 and is_name(words[0]) and is_name(words[1]) and are_numbers(words[2:])


FORMS = {
    "put": are_row, "narrow": are_place_and_stretch, "drop": is_one_name, "undo": is_nothing, "rows": is_nothing,
    "all": is_nothing, "some": is_nothing, "range": is_one_name, "worst": are_numbers, "best": are_numbers,
}


def is_line(words):
    """Whether words make a line."""
    if words[0] not in FORMS:
        return False
    is_right = FORMS[words[0]]
    return is_right(words[1:])


def integers_in(words):
    """The integers that words tell."""
    return [int(word) for word in words]


def told(number):
    """The word for a fraction, or for none."""
    if number is None:
        return "none"
    top, bottom = number
    return str(top) if bottom == 1 else f"{top}/{bottom}"


def yes_or_no(answer):
    """The word for whether there is an answer."""
    return "no" if answer is None else "yes"


def put(desk, words):
    """Put a row with the stretches that words tell."""
    ends = integers_in(words[1:])
    stretches = [(ends[at], ends[at + 1]) for at in range(0, len(ends), 2)]
    desk.put((words[0], tuple(stretches[:-1]), stretches[-1]))
    return "ok"


def narrow(desk, words):
    """Narrow a stretch of a row."""
    desk.narrow(words[0], words[1], tuple(integers_in(words[2:])))
    return "ok"


def drop(desk, words):
    """Take a row out."""
    desk.drop(words[0])
    return "ok"


def undo(desk, words):
    """Take back the last change."""
    desk.undo()
    return "ok"


def names_of_rows(desk, words):
    """The names of the rows."""
    names = desk.system.names
    return " ".join(names) if len(names) > 0 else "none"


def whether_all(desk, words):
    """Whether there is a sure answer."""
    return yes_or_no(common(desk.system))


def whether_some(desk, words):
    """Whether there is a possible answer."""
    return yes_or_no(possible(desk.system))


def both_ends(desk, words):
    """Both ends of the sure range of an unknown."""
    low, high = sure_range(desk.system, words[0])
    return f"{told(low)} {told(high)}"


def worst_cost_told(desk, words):
    """The worst cost."""
    return told(worst(desk.system, tuple(integers_in(words))))


def best_cost_told(desk, words):
    """The best cost."""
    return told(best(desk.system, tuple(integers_in(words))))


DEEDS = {
    "put": put, "narrow": narrow, "drop": drop, "undo": undo, "rows": names_of_rows, "all": whether_all,
    "some": whether_some, "range": both_ends, "worst": worst_cost_told, "best": best_cost_told,
}


class Console:
    """A desk by lines."""

    def __init__(self, unknowns):
        self._desk = Desk(unknowns)

    def __eq__(self, other):
        # Each console has a desk of its own.
        return isinstance(other, Console) and self._desk == other._desk

    @property
    def desk(self):
        """The desk that the lines lead."""
        return self._desk

    def say(self, line):
        """The answer to a line; InvalidText for what is none."""
        if not isinstance(line, str):
            raise InvalidText(line)
        words = line.split(" ")
        if not is_line(words):
            raise InvalidText(line)
        deed = DEEDS[words[0]]
        # These are all errors that the calls for lines raise.
        try:
            return deed(self._desk, words[1:])
        except InvalidRow:
            return "InvalidRow"
        except InvalidName:
            return "InvalidName"
        except InvalidStretch:
            return "InvalidStretch"
        except InvalidCosts:
            return "InvalidCosts"
        except NothingToUndo:
            return "NothingToUndo"
        except NoSure:
            return "NoSure"
        except NoPossible:
            return "NoPossible"
