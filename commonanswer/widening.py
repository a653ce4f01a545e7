"""Widening: all stretches of a system wider by some steps, and how many steps a sure answer bears."""

from commonanswer.checks import check_system
from commonanswer.errors import InvalidRows, InvalidSteps, NoSure
from commonanswer.limits import MOST_STEPS
from commonanswer.sureness import has_sure
from commonanswer.systems import System, is_index


def wider(stretch, steps):
    """A stretch with ends that are so many steps further out."""
    low, high = stretch
    return (low - steps, high + steps)


def wider_rows(rows, steps):
    """The rows with all stretches so many steps wider, whatever the size of their numbers is then."""
    return tuple([
        (name, tuple([wider(stretch, steps) for stretch in stretches]), wider(bound, steps))
        for name, stretches, bound in rows
    ])


def widened(system, steps):
    """The system widened by so many steps; InvalidSteps for what is no number of steps, or gives no system."""
    check_system(system)
    if not is_index(steps, MOST_STEPS + 1):
        raise InvalidSteps(steps)
    try:
        return System(system.unknowns, wider_rows(system.rows, steps))
    except InvalidRows:
        raise InvalidSteps(steps) from None


def greatest_widening(system):
    """The greatest number of steps with which a system has a sure answer; NoSure if 0 has none."""
    check_system(system)
    many = len(system.unknowns)
    if not has_sure(system.rows, many):
        raise NoSure()
    # What is sure in a wider system is sure in a narrower one, so the search can halve what is left each time.
    good, bad = 0, MOST_STEPS + 1
    while bad - good > 1:
        middle = (good + bad) // 2
        if has_sure(wider_rows(system.rows, middle), many):
            good = middle
        else:
            bad = middle
    return good
