"""What several calls take, and the errors for what is not right."""

from commonanswer.errors import InvalidAnswer, InvalidName, NotASystem
from commonanswer.ratios import is_fraction
from commonanswer.systems import System, is_one_of, is_tuple_of


def is_answer(value, many):
    """Whether a value is an answer for so many unknowns."""
    return is_tuple_of(value, many) and all([is_fraction(part) for part in value])


def check_system(system):
    """Raise NotASystem for what is no system."""
    if not isinstance(system, System):
        raise NotASystem(system)


def check_name(system, name):
    """Raise InvalidName for what is no unknown of a system."""
    if not is_one_of(name, system.unknowns):
        raise InvalidName(name)


def check_answer(system, answer):
    """Raise InvalidAnswer for what is no answer for the unknowns of a system."""
    if not is_answer(answer, len(system.unknowns)):
        raise InvalidAnswer(answer)
