"""Demands that hold, and the least sets of changes of a system that make them hold."""

from commonanswer.bars import is_within_part, parts_of
from commonanswer.checks import check_system
from commonanswer.demands import does_hold, is_demand
from commonanswer.errors import InvalidChange, InvalidChanges, InvalidDemand, InvalidDemands
from commonanswer.limits import MOST_CHANGES, MOST_DEMANDS
from commonanswer.systems import BOUND, is_one_of, is_tuple_of


def check_demands(system, demands):
    """Raise InvalidDemands for what are no demands on a system, or too many."""
    if not isinstance(demands, tuple):
        raise InvalidDemands(None)
    for index, demand in enumerate(demands):
        if index == MOST_DEMANDS or not is_demand(demand, system.unknowns):
            raise InvalidDemands(index)


def is_placed(value, system):
    """Whether a value is a triple of the name of a row, a place in it, and anything."""
    if not is_tuple_of(value, 3):
        return False
    return is_one_of(value[0], system.names) and is_one_of(value[1], (*system.unknowns, BOUND))


def check_changes(system, changes):
    """Raise InvalidChanges for what do not tell places in the rows of a system, or too many."""
    if not isinstance(changes, tuple):
        raise InvalidChanges(None)
    for index, change in enumerate(changes):
        if index == MOST_CHANGES or not is_placed(change, system):
            raise InvalidChanges(index)


def behind_all(system, changes):
    """The system behind all of these changes at once, None if there is none."""
    places = [change[:2] for change in changes]
    if any([place in places[:at] for at, place in enumerate(places)]):
        return None
    for change in changes:
        try:
            system = system.changed(change)
        except InvalidChange:
            return None
    return system


def is_mended(system, demands):
    """Whether there is a system, on which all demands hold."""
    return system is not None and all([does_hold(system, demand) for demand in demands])


def holds(system, demand):
    """Whether a demand on a system holds; InvalidDemand for what is none on it."""
    check_system(system)
    if not is_demand(demand, system.unknowns):
        raise InvalidDemand(demand)
    return does_hold(system, demand)


def mends(system, demands, changes):
    """All least sets of changes that mend a system for all demands, each as the places of these changes.

    Those with fewer places stand first, equally long ones are ascending.
    """
    check_system(system)
    check_demands(system, demands)
    check_changes(system, changes)
    found = []
    for part in parts_of(len(changes)):
        # What holds a set that mends within it is no least one.
        if any([is_within_part(least, part) for least in found]):
            continue
        if is_mended(behind_all(system, [changes[at] for at in part]), demands):
            found.append(part)
    return tuple(found)
