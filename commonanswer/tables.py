"""The least costs of amounts that keep limits, reckoned in whole numbers alone.

A limit is a pair (numbers, bound): the sum of numbers times amounts is at most the bound. No amount is below 0.
The way is the criss-cross method with least indexes: whatever is wrong first in a table is exchanged, and the
order of the quantities keeps it from going in a circle.
"""

from commonanswer.ratios import ONE, ZERO, fraction


class Table:
    """The basic quantities and the costs, told by the free quantities, which are 0.

    The quantities are numbered: the amounts, and behind them what is left of each limit. A line says that its basic
    quantity, and entries times free quantities, together are the last entry. The line of costs stands behind the
    others. Each entry is to be divided by `bottom`, which is above 0.
    """

    def __init__(self, lines, bottom, basic, free):
        self.lines = lines
        self.bottom = bottom
        self.basic = basic
        self.free = free


def first_table(limits, costs):
    """The table in which all amounts are free."""
    lines = [[*numbers, bound] for numbers, bound in limits]
    last = [*costs, 0]
    many = len(costs)
    return Table([*lines, last], 1, list(range(many, many + len(limits))), list(range(many)))


def line_behind(line, pivots, column, bottom):
    """Another line behind an exchange in the line of these pivots, but for the sign of the new bottom."""
    # All entries are minors of the first table, so the division leaves no rest.
    behind = [(pivots[column] * entry - line[column] * pivot) // bottom for entry, pivot in zip(line, pivots)]
    behind[column] = -line[column]
    return behind


def exchanged(table, row, column):
    """The table with the basic quantity of a row and the free one of a column in each other's place."""
    pivots = table.lines[row]
    lines = [line_behind(line, pivots, column, table.bottom) for line in table.lines]
    lines[row] = pivots[:column] + [table.bottom] + pivots[column + 1:]
    sign = 1 if pivots[column] > 0 else -1
    basic = list(table.basic)
    free = list(table.free)
    basic[row] = table.free[column]
    free[column] = table.basic[row]
    return Table([[sign * entry for entry in line] for line in lines], sign * pivots[column], basic, free)


def first_place(numbers, marks):
    """The place of the least number that is marked, None if none is."""
    marked = [number for number, mark in zip(numbers, marks) if mark]
    return numbers.index(min(marked)) if marked else None


def first_wrong(table):
    """The first quantity that is below 0, or with which the costs get less; None if there is none."""
    below = [number for number, line in zip(table.basic, table.lines) if line[-1] < 0]
    cheaper = [number for number, cost in zip(table.free, table.lines[-1]) if cost < 0]
    return min(below + cheaper, default=None)


def next_exchange(table):
    """The row and the column of the next exchange.

    Both are None if nothing is wrong. One alone is None if what is wrong in the other can not be mended.
    """
    number = first_wrong(table)
    if number is None:
        return None, None
    if number in table.basic:
        row = table.basic.index(number)
        return row, first_place(table.free, [entry < 0 for entry in table.lines[row][:-1]])
    column = table.free.index(number)
    return first_place(table.basic, [line[column] > 0 for line in table.lines[:-1]]), column


def settled(table):
    """The table behind all exchanges, and the row and the column where it can not be mended, or None."""
    row, column = next_exchange(table)
    while row is not None and column is not None:
        table = exchanged(table, row, column)
        row, column = next_exchange(table)
    return table, row, column


def amounts_in(table, many):
    """The first so many quantities."""
    amounts = [ZERO for _ in range(many)]
    for number, line in zip(table.basic, table.lines):
        if number < many:
            amounts[number] = fraction(line[-1], table.bottom)
    return amounts


def weights_in(table, row, many):
    """How often each limit goes into a line of a table for so many amounts."""
    weights = [ZERO for _ in range(len(table.basic) + len(table.free))]
    for number, entry in zip(table.free, table.lines[row]):
        weights[number] = fraction(entry, table.bottom)
    # The line of costs has no basic quantity of its own.
    if row < len(table.basic):
        weights[table.basic[row]] = ONE
    return weights[many:]


def cheapest_amounts(limits, costs):
    """Amounts that keep all limits at the least cost, and a weight for each limit, none below 0.

    The sums of weights times numbers are at least 0 less the costs, and 0 less the sum of weights times bounds is
    the least cost. If there is no least cost, the weights are None, and the amounts are any that keep the limits.
    If none keep them, the amounts are None, the sums of weights times numbers are at least 0, and the one of
    weights times bounds is below 0.
    """
    many = len(costs)
    table, row, column = settled(first_table(limits, costs))
    if row is not None:
        return None, weights_in(table, row, many)
    if column is None:
        return amounts_in(table, many), weights_in(table, len(limits), many)
    # There is no least cost: either the limits let it get ever less, or nothing keeps them at all.
    amounts, weights = cheapest_amounts(limits, [0] * many)
    return amounts, (weights if amounts is None else None)
