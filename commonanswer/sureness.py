"""The rows of a system for sure answers: cheapest ones, members that ask their cost, ones that stray from a row."""

from commonanswer.answers import always_keeps
from commonanswer.errors import NoSure
from commonanswer.ratios import ZERO, dot, minus, over, plus, times
from commonanswer.tables import cheapest_amounts


def sure_limit(row):
    """A row as a limit for the parts of the values above 0, and behind them the parts below 0."""
    # A value is its part above 0 less its part below 0. HIGH times the first, less LOW times the second, is the
    # most that a member can make of it, and no less than this where both parts are greater by as much.
    highs = [high for low, high in row[1]]
    lows = [-low for low, high in row[1]]
    return (highs + lows, row[2][0])


def cheapest_sure(rows, costs):
    """A sure answer of least cost, and weights that show it.

    If there is no least cost, the weights are None. If there is no sure answer, the answer is None, and the weights
    bar the member that is made of them with costs of 0.
    """
    limits = [sure_limit(row) for row in rows]
    parts, weights = cheapest_amounts(limits, list(costs) + [-cost for cost in costs])
    if parts is None:
        return None, tuple(weights)
    many = len(costs)
    answer = tuple([minus(parts[at], parts[at + many]) for at in range(many)])
    return answer, (None if weights is None else tuple(weights))


def has_sure(rows, many):
    """Whether rows for so many unknowns have a sure answer."""
    answer, _ = cheapest_sure(rows, [0] * many)
    return answer is not None


def share_for(stretches, weights, cost):
    """How far from LOW to HIGH all numbers of an unknown are, for sums with these weights of 0 less the cost."""
    low = dot([stretch[0] for stretch in stretches], weights)
    high = dot([stretch[1] for stretch in stretches], weights)
    return ZERO if low == high else over(minus((-cost, 1), low), minus(high, low))


def number_at(stretch, share):
    """The number that is so far from LOW to HIGH."""
    low, high = stretch
    return plus((low, 1), times((high - low, 1), share))


def asking_member(rows, weights, costs):
    """The member that asks what weights of `cheapest_sure` for these costs show."""
    # With these weights the sums of all LOW are at most 0 less the costs, and those of all HIGH at least.
    shares = []
    for at, cost in enumerate(costs):
        shares.append(share_for([row[1][at] for row in rows], weights, cost))
    member = []
    for row in rows:
        numbers = tuple([number_at(stretch, share) for stretch, share in zip(row[1], shares)])
        member.append((numbers, (row[2][0], 1)))
    return tuple(member)


def worst_cost(rows, costs):
    """The least cost of the sure answers, None if there is no least one; NoSure."""
    answer, weights = cheapest_sure(rows, costs)
    if answer is None:
        raise NoSure()
    return None if weights is None else dot(costs, answer)


def corners_of(stretches):
    """All ways to take one end of each stretch."""
    corners = [()]
    for low, high in stretches:
        ends = [low] if low == high else [low, high]
        corners = [(*corner, end) for corner in corners for end in ends]
    return corners


def stray_from(rows, row):
    """A sure answer of rows that does not always keep another row, None if there is none."""
    answer, _ = cheapest_sure(rows, [0] * len(row[1]))
    if answer is None or not always_keeps(row, answer):
        return answer
    low = row[2][0]
    for corner in corners_of(row[1]):
        # The sure answers have no gaps: if one goes beyond LOW, one goes beyond it by at most 1, where there is an end.
        near = ("near", tuple([(end, end) for end in corner]), (low + 1, low + 1))
        answer, _ = cheapest_sure([*rows, near], [-end for end in corner])
        if not always_keeps(row, answer):
            return answer
    return None


def stray_from_any(rows, others):
    """A sure answer of rows that does not always keep one of the other rows, None if there is none."""
    for row in others:
        answer = stray_from(rows, row)
        if answer is not None:
            return answer
    return None
