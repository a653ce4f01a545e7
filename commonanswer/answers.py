"""Answers: whether they are sure or possible, the rooms of rows, and members with and without them."""

from commonanswer.checks import check_answer, check_system
from commonanswer.ratios import dot, minus

# Which sums are meant: those as great, or as small, as a member can make them.
GREATEST = 1
LEAST = -1


def ends_for(stretches, answer, which):
    """The end of each stretch with which the sum for an answer is the greatest, or the least."""
    # HIGH makes a sum greater where the value is above 0, and smaller where it is below 0.
    return [high if which * value[0] > 0 else low for (low, high), value in zip(stretches, answer)]


def bound_for(row, which):
    """The end of a bound that leaves the least room for the greatest sum, and the greatest for the least."""
    low, high = row[2]
    return low if which == GREATEST else high


def room_for(row, answer, which):
    """The room of a row where its sum is the greatest, or the least."""
    used = dot(ends_for(row[1], answer, which), answer)
    return minus((bound_for(row, which), 1), used)


def always_keeps(row, answer):
    """Whether an answer keeps a row whatever its true numbers are."""
    return room_for(row, answer, GREATEST)[0] >= 0


def can_keep(row, answer):
    """Whether an answer keeps a row with some true numbers."""
    return room_for(row, answer, LEAST)[0] >= 0


def member_for(rows, answer, which):
    """The member in which all sums for an answer are the greatest, or the least."""
    member = []
    for row in rows:
        numbers = tuple([(end, 1) for end in ends_for(row[1], answer, which)])
        member.append((numbers, (bound_for(row, which), 1)))
    return tuple(member)


def is_sure(system, answer):
    """Whether an answer is one of all members."""
    check_system(system)
    check_answer(system, answer)
    return all([always_keeps(row, answer) for row in system.rows])


def is_possible(system, answer):
    """Whether an answer is one of some member."""
    check_system(system)
    check_answer(system, answer)
    # The numbers of unlike rows are free from one another, so each row can be looked at by itself.
    return all([can_keep(row, answer) for row in system.rows])


def rooms(system, answer):
    """The pairs of the least and the greatest room of all rows for an answer."""
    check_system(system)
    check_answer(system, answer)
    return tuple([(room_for(row, answer, GREATEST), room_for(row, answer, LEAST)) for row in system.rows])


def member_with(system, answer):
    """A member of which an answer is one, None if it is not possible."""
    if not is_possible(system, answer):
        return None
    return member_for(system.rows, answer, LEAST)


def member_against(system, answer):
    """A member of which an answer is none, None if it is sure."""
    if is_sure(system, answer):
        return None
    return member_for(system.rows, answer, GREATEST)
