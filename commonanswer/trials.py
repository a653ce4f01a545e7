"""What desks and shelves keep of their past, and the trials behind which they can be as they were."""

from commonanswer.errors import NothingToUndo


class Moment:
    """What there is now, and the moment before it, None for the first one. Moments never change."""

    def __init__(self, now, before):
        self.now = now
        self.before = before
        self.depth = 0 if before is None else before.depth + 1


class Past:
    """All moments of a desk or a shelf, the last one first. Each one has its own past, equal to itself alone."""

    def __init__(self, now):
        self.moment = Moment(now, None)

    def follow(self, now):
        """Make a moment in which there is this now."""
        self.moment = Moment(now, self.moment)

    def go_back(self):
        """Take back the last moment; NothingToUndo."""
        if self.moment.before is None:
            raise NothingToUndo()
        self.moment = self.moment.before


class Trial:
    """For a `with` statement over a desk or a shelf, which goes back if its rows end with an exception."""

    def __init__(self, held, past):
        self.held = held
        self.past = past
        # One trial can stand within itself, so all of its beginnings are kept, the last one first.
        self.begun = None

    def __enter__(self):
        self.begun = Moment(self.past.moment, self.begun)
        return self.held

    def __exit__(self, kind, value, trace):
        past = self.past
        begun = self.begun
        if kind is not None:
            past.moment = begun.now
        self.begun = begun.before
