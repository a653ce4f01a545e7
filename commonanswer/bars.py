"""Rows that bar together, and rows that are spare."""

from commonanswer.checks import check_system
from commonanswer.sureness import has_sure, stray_from


def parts_of(many):
    """All sets of so many indexes, those with fewer first, equally long ones ascending."""
    parts = [()]
    for index in range(many):
        parts = parts + [(*part, index) for part in parts]
    return sorted(parts, key=lambda part: (len(part), part))


def is_within_part(one, other):
    """Whether all indexes of one set are in another one."""
    return all([index in other for index in one])


def least_bars(system):
    """All least bars, each as the indexes of its rows, those with fewer first, equally long ones ascending."""
    check_system(system)
    bars = []
    for part in parts_of(len(system)):
        # What holds a bar within it is no least one.
        if any([is_within_part(bar, part) for bar in bars]):
            continue
        if not has_sure([system.rows[index] for index in part], len(system.unknowns)):
            bars.append(part)
    return tuple(bars)


def spare_rows(system):
    """The indexes of the rows that are spare, each by itself."""
    check_system(system)
    others = [system.without(index).rows for index in range(len(system))]
    return tuple([index for index, row in enumerate(system.rows) if stray_from(others[index], row) is None])
