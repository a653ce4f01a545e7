"""Two systems beside one another: whether the sure answers of the one are sure in the other one."""

from commonanswer.checks import check_both
from commonanswer.sureness import stray_from_any


def straying(one, other):
    """A sure answer of the first system that is not sure in the second one, None if there is none."""
    check_both(one, other)
    return stray_from_any(one.rows, other.rows)


def is_within(one, other):
    """Whether each sure answer of the first system is sure in the second one."""
    return straying(one, other) is None


def are_alike(one, other):
    """Whether both systems have the same sure answers."""
    return is_within(one, other) and is_within(other, one)
