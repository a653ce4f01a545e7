"""Desks: systems whose rows come in one by one, become known better, and go out again."""

from commonanswer.errors import InvalidName, InvalidRow, InvalidRows, InvalidStretch
from commonanswer.sureness import has_sure
from commonanswer.systems import BOUND, System, is_one_of, is_stretch
from commonanswer.trials import Past, Trial


def check_row_name(system, name):
    """Raise InvalidName for what is no name of a row."""
    if not is_one_of(name, system.names):
        raise InvalidName(name)


def stretch_at(system, name, place):
    """The stretch of a row in a place."""
    _, stretches, bound = system.rows[system.names.index(name)]
    return bound if place == BOUND else stretches[system.unknowns.index(place)]


def is_stretch_within(value, stretch):
    """Whether a value is a stretch within another one."""
    return is_stretch(value) and stretch[0] <= value[0] and value[1] <= stretch[1]


class Desk:
    """Rows as they come in, at first none."""

    def __init__(self, unknowns):
        self.past = Past(System(unknowns))

    def __eq__(self, other):
        return isinstance(other, Desk) and self.past == other.past

    def __bool__(self):
        # A desk without rows has the length 0, but is true as well.
        return True

    def __len__(self):
        return len(self.past.moment.now)

    @property
    def system(self):
        """The system of all rows."""
        return self.past.moment.now

    @property
    def served(self):
        """Whether the rows have a sure answer."""
        system = self.past.moment.now
        return has_sure(system.rows, len(system.unknowns))

    def put(self, row):
        """Put a row behind the others; InvalidRow for what does not give a system."""
        try:
            system = self.system.more(row)
        except InvalidRows:
            raise InvalidRow(row) from None
        self.past.follow(system)

    def narrow(self, name, place, stretch):
        """Put a stretch in the place of the one that is there; InvalidName, InvalidStretch if it is not within it."""
        system = self.system
        check_row_name(system, name)
        if not is_one_of(place, (*system.unknowns, BOUND)):
            raise InvalidName(place)
        if not is_stretch_within(stretch, stretch_at(system, name, place)):
            raise InvalidStretch(stretch)
        self.past.follow(system.changed((name, place, stretch)))

    def drop(self, name):
        """Take a row out; InvalidName for what is no name of one."""
        system = self.system
        check_row_name(system, name)
        self.past.follow(system.without(system.names.index(name)))

    def undo(self):
        """Take back the last change of the rows; NothingToUndo."""
        self.past.go_back()

    def trial(self):
        """For a `with` statement; if its rows end with an exception, the desk is as it was when they began."""
        return Trial(self, self.past)

    def tried(self, action):
        """What a function returns for the desk within a trial."""
        with self.trial():
            return action(self)
