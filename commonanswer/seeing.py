"""Seen answers: the members that fit them, and the first row that fits none."""

from math import lcm

from commonanswer.checks import check_seen, check_system
from commonanswer.ratios import plus
from commonanswer.tables import cheapest_amounts


def in_whole_numbers(answer):
    """The values of an answer times a bottom that they share, and this bottom."""
    whole = 1
    for _, bottom in answer:
        whole = lcm(whole, bottom)
    return [top * (whole // bottom) for top, bottom in answer], whole


def seen_limit(row, answer):
    """What an answer that keeps a row asks of how far its numbers are above LOW."""
    # The greatest bound is the one that lets most answers in, whatever the numbers are.
    values, whole = in_whole_numbers(answer)
    least = sum([value * low for value, (low, high) in zip(values, row[1])])
    return (values, whole * row[2][1] - least)


def width_limits(stretches):
    """That no number is further above LOW than HIGH is."""
    limits = []
    for at, (low, high) in enumerate(stretches):
        limits.append(([1 if at == place else 0 for place in range(len(stretches))], high - low))
    return limits


def numbers_for(row, seen):
    """Numbers with which all that was seen keeps a row, None if there are none."""
    limits = width_limits(row[1]) + [seen_limit(row, answer) for answer in seen]
    parts, _ = cheapest_amounts(limits, [0 for _ in row[1]])
    if parts is None:
        return None
    return tuple([plus((low, 1), part) for (low, high), part in zip(row[1], parts)])


def clash(system, seen):
    """The index of the first row none of whose numbers fit what was seen, None if there is none."""
    check_system(system)
    check_seen(system, seen)
    for index, row in enumerate(system.rows):
        if numbers_for(row, seen) is None:
            return index
    return None


def fits(system, seen):
    """Whether some member fits what was seen."""
    return clash(system, seen) is None


def fitting(system, seen):
    """A member that fits what was seen, None if there is none."""
    if not fits(system, seen):
        return None
    return tuple([(numbers_for(row, seen), (row[2][1], 1)) for row in system.rows])
