"""Sure answers: any, the true numbers that bar one, and how far each unknown can reach."""

from commonanswer.checks import check_name, check_system
from commonanswer.ratios import opposite
from commonanswer.sureness import asking_member, cheapest_sure, worst_cost


def common(system):
    """A sure answer, None if there is none."""
    check_system(system)
    answer, _ = cheapest_sure(system.rows, [0 for _ in system.unknowns])
    return answer


def barring(system):
    """A pair of a member and weights that bar it, None if there is a sure answer."""
    check_system(system)
    costs = [0 for _ in system.unknowns]
    answer, weights = cheapest_sure(system.rows, costs)
    if answer is not None:
        return None
    return (asking_member(system.rows, weights, costs), weights)


def sure_range(system, name):
    """The least and the greatest value of an unknown in sure answers, None for an end that there is not; NoSure."""
    check_system(system)
    check_name(system, name)
    # The greatest value is 0 less the least one of its opposite.
    low = worst_cost(system.rows, [1 if unknown == name else 0 for unknown in system.unknowns])
    high = worst_cost(system.rows, [-1 if unknown == name else 0 for unknown in system.unknowns])
    return (low, None if high is None else opposite(high))
