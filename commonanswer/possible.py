"""Possible answers: any, and how far each unknown can reach."""

from commonanswer.checks import check_name, check_system
from commonanswer.ratios import opposite
from commonanswer.signs import any_possible, best_cost


def possible(system):
    """A possible answer, None if there is none."""
    check_system(system)
    return any_possible(system.rows, len(system.unknowns))


def possible_range(system, name):
    """The least and the greatest value of an unknown in possible answers, None for an end that is not; NoPossible."""
    check_system(system)
    check_name(system, name)
    # The greatest value is 0 less the least one of its opposite.
    low = best_cost(system.rows, [1 if unknown == name else 0 for unknown in system.unknowns])
    high = best_cost(system.rows, [-1 if unknown == name else 0 for unknown in system.unknowns])
    return (low, None if high is None else opposite(high))
