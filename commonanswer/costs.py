"""Costs: what the cheapest answer costs in the worst case, by which true numbers, and in the best case."""

from commonanswer.checks import check_costs, check_system
from commonanswer.errors import NoSure
from commonanswer.signs import best_cost
from commonanswer.sureness import asking_member, cheapest_sure, worst_cost


def worst(system, costs):
    """The worst cost, None if sure answers cost less than any number; NoSure."""
    check_system(system)
    check_costs(system, costs)
    return worst_cost(system.rows, costs)


def best(system, costs):
    """The best cost, None if possible answers cost less than any number; NoPossible."""
    check_system(system)
    check_costs(system, costs)
    return best_cost(system.rows, costs)


def cheapest(system, costs):
    """A sure answer with the worst cost, None if there is no worst cost; NoSure."""
    check_system(system)
    check_costs(system, costs)
    answer, weights = cheapest_sure(system.rows, costs)
    if answer is None:
        raise NoSure()
    return None if weights is None else answer


def worst_member(system, costs):
    """A member and weights that show that it asks at least the worst cost, None if there is no such cost; NoSure."""
    check_system(system)
    check_costs(system, costs)
    answer, weights = cheapest_sure(system.rows, costs)
    if answer is None:
        raise NoSure()
    return None if weights is None else (asking_member(system.rows, weights, costs), weights)
