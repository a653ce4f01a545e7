"""The rows of a system for possible answers, looked at for each row of signs of the values by itself."""

from commonanswer.errors import NoPossible
from commonanswer.ratios import dot, is_below
from commonanswer.tables import cheapest_amounts


def sign_rows(many):
    """The tuples of 1 and -1 for so many unknowns, in ascending order."""
    found = [()]
    for _ in range(many):
        found = [(*signs, sign) for signs in found for sign in (-1, 1)]
    return found


def possible_limit(row, signs):
    """A row as a limit for the amounts of values with these signs."""
    # Where the signs are known, one end of each stretch always makes the sum the least.
    numbers = [sign * (low if sign == 1 else high) for sign, (low, high) in zip(signs, row[1])]
    return (numbers, row[2][1])


def cheapest_possible(rows, costs, signs):
    """A possible answer with these signs, or 0 in their place, of least cost, and weights that show it.

    If there is no least cost, the weights are None. If there is no such answer, the answer is None.
    """
    limits = [possible_limit(row, signs) for row in rows]
    amounts, weights = cheapest_amounts(limits, [sign * cost for sign, cost in zip(signs, costs)])
    if amounts is None:
        return None, tuple(weights)
    answer = tuple([(sign * top, bottom) for sign, (top, bottom) in zip(signs, amounts)])
    return answer, (None if weights is None else tuple(weights))


def any_possible(rows, many):
    """A possible answer of rows for so many unknowns, None if there is none."""
    for signs in sign_rows(many):
        answer, _ = cheapest_possible(rows, [0] * many, signs)
        if answer is not None:
            return answer
    return None


def best_cost(rows, costs):
    """The least cost of the possible answers, None if there is no least one; NoPossible."""
    least = None
    for signs in sign_rows(len(costs)):
        answer, weights = cheapest_possible(rows, costs, signs)
        if answer is None:
            continue
        if weights is None:
            return None
        cost = dot(costs, answer)
        if least is None or is_below(cost, least):
            least = cost
    if least is None:
        raise NoPossible()
    return least
