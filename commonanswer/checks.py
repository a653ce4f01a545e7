"""What several calls take, and the errors for what is not right."""

from commonanswer.errors import (
    InvalidAnswer, InvalidCosts, InvalidName, InvalidSeen, InvalidText, NotASystem, OtherUnknowns,
)
from commonanswer.limits import MOST_COST, MOST_SEEN
from commonanswer.ratios import is_fraction
from commonanswer.systems import System, is_integer, is_one_of, is_tuple_of


def is_answer(value, many):
    """Whether a value is an answer for so many unknowns."""
    return is_tuple_of(value, many) and all([is_fraction(part) for part in value])


def is_cost(value):
    """Whether a value is a cost of one unknown."""
    return is_integer(value) and -MOST_COST <= value <= MOST_COST


def are_costs(value, many):
    """Whether a value is costs of so many unknowns."""
    return is_tuple_of(value, many) and all([is_cost(cost) for cost in value])


def system_in(text):
    """The system with a text, None for what is no text of a system."""
    try:
        return System.read(text)
    except InvalidText:
        return None


def check_system(system):
    """Raise NotASystem for what is no system."""
    if not isinstance(system, System):
        raise NotASystem(system)


def check_name(system, name):
    """Raise InvalidName for what is no unknown of a system."""
    if not is_one_of(name, system.unknowns):
        raise InvalidName(name)


def check_answer(system, answer):
    """Raise InvalidAnswer for what is no answer for the unknowns of a system."""
    if not is_answer(answer, len(system.unknowns)):
        raise InvalidAnswer(answer)


def check_costs(system, costs):
    """Raise InvalidCosts for what is no costs of the unknowns of a system."""
    if not are_costs(costs, len(system.unknowns)):
        raise InvalidCosts(costs)


def check_seen(system, seen):
    """Raise InvalidSeen for what are no answers for the unknowns of a system, or too many."""
    if not isinstance(seen, tuple):
        raise InvalidSeen(None)
    for index, answer in enumerate(seen):
        if index == MOST_SEEN or not is_answer(answer, len(system.unknowns)):
            raise InvalidSeen(index)


def check_both(one, other):
    """Raise NotASystem for what is no system, OtherUnknowns for a second one with other unknowns."""
    check_system(one)
    check_system(other)
    if one.unknowns != other.unknowns:
        raise OtherUnknowns(other)
