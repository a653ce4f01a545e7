"""Demands on a system: which values are demands, and whether they hold."""

from commonanswer.answers import is_sure
from commonanswer.checks import are_costs, is_answer, system_in
from commonanswer.common import common
from commonanswer.comparing import are_alike
from commonanswer.limits import MOST_UNKNOWNS
from commonanswer.possible import possible
from commonanswer.ratios import dot
from commonanswer.sureness import cheapest_sure
from commonanswer.systems import is_integer, is_one_of

MOST_SERVED = 10 ** 6


def has_no_parts(parts, many):
    """Whether nothing stands behind the word."""
    return len(parts) == 0


def has_costs_and_most(parts, many):
    """Whether costs of so many unknowns stand behind the word, and the most that an answer may cost."""
    if len(parts) != 2 or not are_costs(parts[0], many):
        return False
    return is_integer(parts[1]) and -MOST_SERVED <= parts[1] <= MOST_SERVED


def has_answer(parts, many):
    """Whether an answer for so many unknowns stands behind the word."""
    return len(parts) == 1 and is_answer(parts[0], many)


def has_text(parts, many):
    """Whether the text of a system stands behind the word, whatever its unknowns are."""
    return len(parts) == 1 and system_in(parts[0]) is not None


FORMS = {"all": has_no_parts, "some": has_no_parts, "serves": has_costs_and_most, "sure": has_answer, "like": has_text}


def has_form(value, many):
    """Whether a value is a demand on a system with so many unknowns, whatever those of a text are."""
    if not isinstance(value, tuple) or len(value) == 0 or not is_one_of(value[0], list(FORMS)):
        return False
    has_parts = FORMS[value[0]]
    return has_parts(value[1:], many)


def is_demand(value, unknowns):
    """Whether a value is a demand on a system with these unknowns."""
    if not has_form(value, len(unknowns)):
        return False
    return value[0] != "like" or system_in(value[1]).unknowns == unknowns


def is_any_demand(value):
    """Whether a value is a demand on some system."""
    return any([has_form(value, many) for many in range(1, MOST_UNKNOWNS + 1)])


def has_common(system, parts):
    """Whether a system has a sure answer."""
    return common(system) is not None


def has_possible(system, parts):
    """Whether a system has a possible answer."""
    return possible(system) is not None


def serves(system, parts):
    """Whether a system has a sure answer with these costs that costs at most so much."""
    costs, most = parts
    answer, weights = cheapest_sure(system.rows, costs)
    if answer is None or weights is None:
        return answer is not None
    top, bottom = dot(costs, answer)
    return top <= most * bottom


def makes_sure(system, parts):
    """Whether an answer is sure."""
    return is_sure(system, parts[0])


def is_like(system, parts):
    """Whether a system has the same sure answers as the one with this text."""
    return are_alike(system, system_in(parts[0]))


MEANINGS = {"all": has_common, "some": has_possible, "serves": serves, "sure": makes_sure, "like": is_like}


def does_hold(system, demand):
    """Whether a demand on a system holds."""
    meaning = MEANINGS[demand[0]]
    return meaning(system, demand[1:])
