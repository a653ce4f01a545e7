"""Systems: unknowns with rows of stretches, the text of a system, and the systems behind its changes."""

from commonanswer.errors import InvalidChange, InvalidIndex, InvalidRows, InvalidText, InvalidUnknowns
from commonanswer.limits import MOST_NUMBER, MOST_ROWS, MOST_UNKNOWNS

LETTERS = "abcdefghijklmnopqrstuvwxyz"
DIGITS = "0123456789"
MOST_CHARACTERS = 8
BOUND = "bound"


def is_integer(value):
    """Whether a value is an integer; True and False are none."""
    return isinstance(value, int) and not isinstance(value, bool)


def is_index(value, many):
    """Whether a value is an index of so many things."""
    return is_integer(value) and 0 <= value < many


def is_tuple_of(value, many):
    """Whether a value is a tuple of so many elements, whatever these are."""
    return isinstance(value, tuple) and len(value) == many


def is_one_of(value, words):
    """Whether a value is one of these strings."""
    # What is no string is never compared: it might be equal to anything.
    return isinstance(value, str) and value in words


def is_name(value):
    """Whether a value is a name."""
    if not isinstance(value, str) or not 1 <= len(value) <= MOST_CHARACTERS:
        return False
    return value[0] in LETTERS and all([char in LETTERS or char in DIGITS for char in value])


def is_unknown(value):
    """Whether a value is a name for an unknown."""
    return is_name(value) and value != BOUND


def is_stretch(value):
    """Whether a value is a stretch."""
    if not is_tuple_of(value, 2):
        return False
    low, high = value
    return is_integer(low) and is_integer(high) and -MOST_NUMBER <= low <= high <= MOST_NUMBER


def is_row(value, many):
    """Whether a value is a row for so many unknowns."""
    if not is_tuple_of(value, 3):
        return False
    name, stretches, bound = value
    if not is_name(name) or not is_tuple_of(stretches, many):
        return False
    return all([is_stretch(stretch) for stretch in (*stretches, bound)])


def is_change(value, names, places):
    """Whether a value is a change of a system with rows of these names, of which each has these places."""
    if not is_tuple_of(value, 3):
        return False
    name, place, stretch = value
    return is_one_of(name, names) and is_one_of(place, places) and is_stretch(stretch)


def check_unknowns(unknowns):
    """Raise InvalidUnknowns for what are no unknowns of a system."""
    if not isinstance(unknowns, tuple) or len(unknowns) == 0:
        raise InvalidUnknowns(None)
    for index, name in enumerate(unknowns):
        if index == MOST_UNKNOWNS or not is_unknown(name) or name in unknowns[:index]:
            raise InvalidUnknowns(index)


def check_rows(rows, many):
    """Raise InvalidRows for what are no rows of a system with so many unknowns."""
    if not isinstance(rows, tuple):
        raise InvalidRows(None)
    names = []
    for index, row in enumerate(rows):
        if index == MOST_ROWS or not is_row(row, many) or row[0] in names:
            raise InvalidRows(index)
        names.append(row[0])


def row_with(row, at, stretch):
    """The row with this stretch at an index, the one of the bound standing behind those of the unknowns."""
    stretches = [*row[1], row[2]]
    stretches[at] = stretch
    return (row[0], tuple(stretches[:-1]), stretches[-1])


def line_of(row):
    """The line of a row in the text of its system."""
    name, stretches, bound = row
    ends = [str(end) for stretch in (*stretches, bound) for end in stretch]
    return " ".join(["row", name, *ends])


def integer_in(word):
    """The integer that a word tells in decimal digits, None if it tells none or one beyond the limit."""
    # Longer words are not looked into: Python makes no integers of very long ones.
    if len(word) > len(str(-MOST_NUMBER)) or not word.removeprefix("-").isdecimal():
        return None
    return int(word)


def row_in(line):
    """The row that a line of a text tells, or something that is no row."""
    words = line.split(" ")
    if len(words) < 4:
        return None
    ends = [integer_in(word) for word in words[2:]]
    stretches = [(ends[at], ends[at + 1]) for at in range(0, len(ends) - 1, 2)]
    return (words[1], tuple(stretches[:-1]), stretches[-1])


class System:
    """One to three unknowns and up to six rows, which never change."""

    def __init__(self, unknowns, rows=()):
        check_unknowns(unknowns)
        check_rows(rows, len(unknowns))
        self._unknowns = unknowns
        self._rows = rows

    @classmethod
    def read(cls, text):
        """The system with this text; InvalidText for what is no text of a system."""
        if not isinstance(text, str):
            raise InvalidText(text)
        first, *others = text.split("\n")
        unknowns = tuple(first.split(" ")[1:])
        rows = tuple([row_in(line) for line in others])
        try:
            system = cls(unknowns, rows)
        except (InvalidUnknowns, InvalidRows):
            raise InvalidText(text) from None
        # Each system has one text: whatever else is read as this system is not that text.
        if str(system) != text:
            raise InvalidText(text)
        return system

    @property
    def unknowns(self):
        """The names of the unknowns, as they were passed."""
        return self._unknowns

    @property
    def rows(self):
        """The rows, as they were passed."""
        return self._rows

    @property
    def names(self):
        """The names of the rows."""
        return tuple([row[0] for row in self._rows])

    def __len__(self):
        return len(self._rows)

    def __bool__(self):
        # A system without rows has the length 0, but is true as well.
        return True

    def __str__(self):
        first = " ".join(["unknowns", *self._unknowns])
        others = [line_of(row) for row in self._rows]
        return "\n".join([first, *others])

    def __eq__(self, other):
        return isinstance(other, System) and self._unknowns == other._unknowns and self._rows == other._rows

    def changed(self, change):
        """The system behind a change; InvalidChange for what is no change that gives a system."""
        places = (*self._unknowns, BOUND)
        if not is_change(change, self.names, places):
            raise InvalidChange(change)
        name, place, stretch = change
        at = places.index(place)
        rows = [row_with(row, at, stretch) if row[0] == name else row for row in self._rows]
        return System(self._unknowns, tuple(rows))

    def without(self, index):
        """The system without the row with this index; InvalidIndex for what is no index of a row."""
        if not is_index(index, len(self._rows)):
            raise InvalidIndex(index)
        return System(self._unknowns, self._rows[:index] + self._rows[index + 1:])

    def more(self, row):
        """The system with a row more, behind the others; InvalidRows, with their number, if it gives none."""
        # The rows that are there are right beside one another, so only the new one can be wrong.
        return System(self._unknowns, (*self._rows, row))
