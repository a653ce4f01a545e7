"""Shelves: systems under names, with demands on them that hold whatever is changed."""

from commonanswer.checks import check_system
from commonanswer.comparing import are_alike, is_within
from commonanswer.demands import does_hold, is_any_demand, is_demand
from commonanswer.errors import Broken, InUse, InvalidDemand, InvalidIndex, InvalidName, UnknownName
from commonanswer.systems import is_index, is_name, is_one_of
from commonanswer.trials import Past, Trial

ALIKE = "alike"
WITHIN = "within"


def is_shelf_demand(value):
    """Whether a value is a demand on a shelf, whatever stands there."""
    if not isinstance(value, tuple):
        return False
    if len(value) == 2:
        return is_name(value[0]) and is_any_demand(value[1])
    return len(value) == 3 and is_one_of(value[0], (ALIKE, WITHIN)) and is_name(value[1]) and is_name(value[2])


def names_in(demand):
    """The names that a demand on a shelf has for A and B."""
    return demand[:1] if len(demand) == 2 else demand[1:]


def is_kept(placed, demand):
    """Whether a demand holds for the systems that are placed under its names."""
    systems = [placed[name] for name in names_in(demand)]
    if len(demand) == 2:
        # A demand can be one on other systems only than the one that stands there.
        return is_demand(demand[1], systems[0].unknowns) and does_hold(systems[0], demand[1])
    one, other = systems
    if one.unknowns != other.unknowns:
        return False
    return are_alike(one, other) if demand[0] == ALIKE else is_within(one, other)


def check_there(placed, name):
    """Raise UnknownName for what nothing is placed under."""
    if not is_one_of(name, placed):
        raise UnknownName(name)


class Shelf:
    """Systems under names, and a row of demands, at first none."""

    def __init__(self):
        # What there is now is a pair of a dict of the systems by their names, and a tuple of the demands.
        self.past = Past(({}, ()))

    def __eq__(self, other):
        return isinstance(other, Shelf) and self.past == other.past

    def __bool__(self):
        # A shelf without systems has the length 0, but is true as well.
        return True

    def __len__(self):
        return len(self.past.moment.now[0])

    def __contains__(self, x):
        return is_one_of(x, self.past.moment.now[0])

    def __iter__(self):
        raise TypeError("a shelf is not iterated over")

    def __getitem__(self, at):
        placed, _ = self.past.moment.now
        check_there(placed, at)
        return placed[at]

    def __setitem__(self, at, worth):
        if not is_name(at):
            raise InvalidName(at)
        check_system(worth)
        placed, asked = self.past.moment.now
        placed = {**placed, at: worth}
        for index, demand in enumerate(asked):
            # All other demands hold as they did.
            if at in names_in(demand) and not is_kept(placed, demand):
                raise Broken(index)
        self.past.follow((placed, asked))

    @property
    def names(self):
        """The names of the systems, in ascending order."""
        return tuple(sorted(list(self.past.moment.now[0])))

    @property
    def demands(self):
        """The demands, in their order."""
        return self.past.moment.now[1]

    @property
    def changes(self):
        """How many changes can be taken back."""
        return self.past.moment.depth

    def remove(self, name):
        """Take a system away; UnknownName, InUse with the first demand that needs it."""
        placed, asked = self.past.moment.now
        check_there(placed, name)
        for index, demand in enumerate(asked):
            if name in names_in(demand):
                raise InUse(index)
        self.past.follow(({own: placed[own] for own in placed if own != name}, asked))

    def ask(self, demand):
        """Make a demand, behind the others; InvalidDemand, UnknownName, Broken."""
        if not is_shelf_demand(demand):
            raise InvalidDemand(demand)
        placed, asked = self.past.moment.now
        for name in names_in(demand):
            check_there(placed, name)
        if not is_kept(placed, demand):
            raise Broken(len(asked))
        self.past.follow((placed, (*asked, demand)))

    def lift(self, index):
        """Take a demand away; InvalidIndex for what is no index of one."""
        placed, asked = self.past.moment.now
        if not is_index(index, len(asked)):
            raise InvalidIndex(index)
        self.past.follow((placed, asked[:index] + asked[index + 1:]))

    def undo(self):
        """Take back the last change that is not taken back yet; NothingToUndo."""
        self.past.go_back()

    def trial(self):
        """For a `with` statement; if its rows end with an exception, the shelf is as it was when they began."""
        return Trial(self, self.past)

    def tried(self, action):
        """What a function returns for the shelf within a trial."""
        with self.trial():
            return action(self)
