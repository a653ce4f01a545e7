"""What several tests reckon by themselves, in whole numbers alone and in other ways than the program does.

Points and directions are tuples of integers with a last one behind the values, by which these are to be divided; it
is 0 for directions. The answers with one row of signs are what their corners and directions span.
"""

from functools import lru_cache
from itertools import combinations, product
from math import gcd
from operator import mul

from commonanswer.systems import System

NAMES = ("a", "b", "c", "d", "e", "f")
UNKNOWNS = ("x", "y", "z")


class Dice:
    """Numbers that look like thrown ones, the same in each run."""

    def __init__(self, seed):
        self.state = seed * 7919 + 17

    def throw(self, low, high):
        """An integer from low to high."""
        self.state = (self.state * 6364136223846793005 + 1442695040888963407) % 2 ** 64
        return low + (self.state >> 33) % (high - low + 1)

    def pick(self, values):
        """One of these values."""
        return values[self.throw(0, len(values) - 1)]


def single(dice, size):
    """A stretch of a single number."""
    low = dice.throw(-size, size)
    return (low, low)


def wide(dice, size):
    """A stretch of any width."""
    ends = sorted([dice.throw(-size, size), dice.throw(-size, size)])
    return tuple(ends)


def narrow(dice, size):
    """A stretch that is a little wide, if at all."""
    low = dice.throw(-size, size - 1)
    return (low, low + dice.throw(0, 1))


def around(dice, size):
    """A stretch around 0."""
    return (dice.throw(-size, 0), dice.throw(0, size))


def at_the_ends(dice, size):
    """A stretch with ends at the limits, or near to them."""
    ends = [-10000, -9999, -1, 0, 1, 9999, 10000]
    return tuple(sorted([dice.pick(ends), dice.pick(ends)]))


def mixed(dice, size):
    """A stretch of one of the other kinds."""
    return dice.pick((single, single, wide, narrow, around, at_the_ends))(dice, size)


KINDS = ((single, 3), (narrow, 3), (narrow, 9), (wide, 4), (around, 2), (at_the_ends, 0), (mixed, 5), (narrow, 9000))


def thrown(dice, many, size, kind, scale, shift):
    """A system of this size with stretches of one kind, the bounds moved by some multiple of the scale."""
    rows = []
    for name in NAMES[:size]:
        stretches = tuple([kind(dice, scale) for _ in range(many)])
        bound = [min(10000, max(-10000, end + shift * scale)) for end in kind(dice, scale)]
        rows.append((name, stretches, tuple(bound)))
    return System(UNKNOWNS[:many], tuple(rows))


def systems(seed, times=1, most_rows=6):
    """Systems of all sizes and kinds, the same ones for the same seed."""
    dice = Dice(seed)
    made = []
    for _ in range(times):
        for many in (1, 2, 3):
            for size in range(most_rows + 1):
                for kind, scale in KINDS:
                    made.append(thrown(dice, many, size, kind, scale, dice.pick((0, 0, 1, 2))))
    return made


def boxed(dice, many, size, scale):
    """A system in which two rows for each unknown keep its values near to 0, and others ask for more."""
    rows = []
    for at in range(many):
        for sign in (1, -1):
            rows.append(tuple([(sign, sign) if at == place else (0, 0) for place in range(many)]))
    bounds = [(dice.throw(0, scale), 2 * scale) for _ in rows]
    while len(rows) < size:
        rows.append(tuple([narrow(dice, scale) for _ in range(many)]))
        bounds.append(narrow(dice, scale))
    return System(UNKNOWNS[:many], tuple(zip(NAMES, rows, bounds)))


def boxes(seed, times):
    """Systems whose answers, if there are any, do not go on without an end."""
    dice = Dice(seed)
    return [
        boxed(dice, many, dice.throw(2 * many, 6), dice.pick((3, 20, 5000)))
        for _ in range(times) for many in (1, 2, 3)
    ]


def fraction(top, bottom):
    """The fraction of two integers, the second one above 0."""
    shared = gcd(top, bottom)
    return (top // shared, bottom // shared)


def is_fraction(value):
    """Whether a value is a fraction as the document tells."""
    if value.__class__ is not tuple or [part.__class__ for part in value] != [int, int]:
        return False
    return value[1] > 0 and gcd(*value) == 1


def is_answer(value, many):
    """Whether a value is an answer for so many unknowns."""
    return value.__class__ is tuple and len(value) == many and all(is_fraction(part) for part in value)


def answer_at(point):
    """The answer that a point tells."""
    return tuple([fraction(part, point[-1]) for part in point[:-1]])


def over_one_bottom(fractions):
    """The tops of fractions over one bottom, which stands behind them."""
    bottom = 1
    for part in fractions:
        bottom *= part[1]
    return (*[top * (bottom // own) for top, own in fractions], bottom)


def sums_at_ends(stretches, point):
    """The sums for a point with all ends of all stretches, times its bottom."""
    return [sum(end * value for end, value in zip(ends, point)) for ends in product(*stretches)]


def rooms_at(row, point):
    """The least and the greatest room of a row for a point, times its bottom."""
    sums = sums_at_ends(row[1], point)
    return (row[2][0] * point[-1] - max(sums), row[2][1] * point[-1] - min(sums))


def is_sure_at(rows, point):
    """Whether a point is sure."""
    return all(rooms_at(row, point)[0] >= 0 for row in rows)


def is_possible_at(rows, point):
    """Whether a point is possible."""
    return all(rooms_at(row, point)[1] >= 0 for row in rows)


def minors(one, other):
    """The minors of two lines of as many integers, for each two places."""
    return {
        (a, b): one[a] * other[b] - one[b] * other[a]
        for a, b in combinations(range(len(one)), 2)
    }


def crossing(lines):
    """What is upright to all of these one to three lines, all 0 if there is more than one direction."""
    if len(lines) == 1:
        return (lines[0][1], -lines[0][0])
    m = minors(lines[0], lines[1])
    if len(lines) == 2:
        return (m[1, 2], -m[0, 2], m[0, 1])
    a, b, c, d = lines[2]
    return (
        b * m[2, 3] - c * m[1, 3] + d * m[1, 2],
        -a * m[2, 3] + c * m[0, 3] - d * m[0, 2],
        a * m[1, 3] - b * m[0, 3] + d * m[0, 1],
        -a * m[1, 2] + b * m[0, 2] - c * m[0, 1],
    )


def in_lowest_terms(point):
    """A point with as small integers as can be."""
    shared = gcd(*point)
    return tuple([part // shared for part in point])


def spanning(lines, many):
    """The extreme directions of what has no sum above 0 with any of these lines."""
    found = {}
    for some in combinations(lines, many):
        upright = crossing(some)
        if not any(upright):
            continue
        for point in (upright, tuple([-part for part in upright])):
            if all(sum(map(mul, line, point)) <= 0 for line in lines):
                found[in_lowest_terms(point)] = True
    return list(found)


@lru_cache(maxsize=None)
def pieces(rows, many, sure):
    """For each row of signs with answers, sure or possible ones: the corners and the directions of these answers."""
    found = []
    for signs in product((-1, 1), repeat=many):
        lines = [[-sign if at == place else 0 for place in range(many + 1)] for at, sign in enumerate(signs)]
        lines.append([0] * many + [-1])
        for _, stretches, bound in rows:
            ends = [pair[1] if (sign == 1) == sure else pair[0] for sign, pair in zip(signs, stretches)]
            lines.append(ends + [-bound[0] if sure else -bound[1]])
        points = spanning(lines, many)
        if any(point[-1] for point in points):
            found.append(([point for point in points if point[-1]], [point for point in points if not point[-1]]))
    return found


def least_cost(found, costs):
    """The least cost in these pieces as (top, bottom), None if there is no least one."""
    least = None
    for points, directions in found:
        if any(sum(cost * part for cost, part in zip(costs, direction)) < 0 for direction in directions):
            return None
        for point in points:
            cost = (sum(cost * part for cost, part in zip(costs, point)), point[-1])
            if least is None or cost[0] * least[1] < least[0] * cost[1]:
                least = cost
    return fraction(*least)


def range_in(found, at, many):
    """The least and the greatest value of an unknown in these pieces, None for an end that there is not."""
    low = least_cost(found, [1 if at == place else 0 for place in range(many)])
    high = least_cost(found, [-1 if at == place else 0 for place in range(many)])
    return (low, None if high is None else (-high[0], high[1]))


def is_piece_within(found, rows):
    """Whether all that these pieces of sure answers hold is sure for other rows."""
    steady = [(name, stretches, (0, 0)) for name, stretches, _ in rows]
    return all(
        all(is_sure_at(rows, point) for point in points)
        and all(is_sure_at(steady, (*direction[:-1], 1)) for direction in directions)
        for points, directions in found
    )


def within(one, other):
    """Whether each sure answer of a system is sure in another one with the same unknowns."""
    return is_piece_within(pieces(one.rows, len(one.unknowns), True), other.rows)


def demand_holds(system, demand):
    """Whether a value that has the form of a demand is one on this system, and holds."""
    many = len(system.unknowns)
    word, *parts = demand
    found = pieces(system.rows, many, word != "some")
    if word in ("all", "some"):
        return bool(found)
    if word == "sure":
        return len(parts[0]) == many and is_sure_at(system.rows, over_one_bottom(parts[0]))
    if word == "like":
        other = System.read(parts[0])
        return other.unknowns == system.unknowns and within(system, other) and within(other, system)
    if len(parts[0]) != many or not found:
        return False
    least = least_cost(found, parts[0])
    return least is None or least[0] <= parts[1] * least[1]


def shelf_holds(placed, demand):
    """Whether a demand on a shelf holds for the systems under its names."""
    if len(demand) == 2:
        return demand_holds(placed[demand[0]], demand[1])
    word, one, other = demand[0], placed[demand[1]], placed[demand[2]]
    if one.unknowns != other.unknowns or not within(one, other):
        return False
    return word == "within" or within(other, one)


def is_member(rows, member):
    """Whether a value is a member of a system with these rows."""
    if member.__class__ is not tuple or len(member) != len(rows):
        return False
    for (_, stretches, bound), pair in zip(rows, member):
        if pair.__class__ is not tuple or len(pair) != 2:
            return False
        numbers, own = pair
        if numbers.__class__ is not tuple or len(numbers) != len(stretches):
            return False
        for part, (low, high) in zip((*numbers, own), (*stretches, bound)):
            if not is_fraction(part) or not low * part[1] <= part[0] <= high * part[1]:
                return False
    return True


def keeps(member, answer):
    """Whether an answer is one of a member."""
    *values, whole = over_one_bottom(answer)
    for numbers, own in member:
        *parts, bound, bottom = over_one_bottom((*numbers, own))
        if sum(part * value for part, value in zip(parts, values)) > bound * whole:
            return False
    return True


def weighed(member, weights, many):
    """The sums of weight times number for all unknowns, and of weight times bound, over one bottom behind them."""
    *factors, bottom = over_one_bottom(weights)
    *parts, whole = over_one_bottom([part for numbers, own in member for part in (*numbers, own)])
    rows = [parts[at:at + many + 1] for at in range(0, len(parts), many + 1)]
    return [sum(factor * row[at] for factor, row in zip(factors, rows)) for at in range(many + 1)] + [bottom * whole]


def are_weights(weights, many):
    """Whether a value is weights for so many rows."""
    if weights.__class__ is not tuple or len(weights) != many:
        return False
    return all(is_fraction(weight) and weight[0] >= 0 for weight in weights)


def bars(rows, many, pair):
    """Whether a value is a pair of a member and weights that bar it."""
    if pair.__class__ is not tuple or len(pair) != 2:
        return False
    member, weights = pair
    if not is_member(rows, member) or not are_weights(weights, len(rows)):
        return False
    *sums, bound, _ = weighed(member, weights, many)
    return not any(sums) and bound < 0


def shows(rows, costs, pair, cost):
    """Whether a value is a pair of a member and weights that show that it asks at least a cost (top, bottom)."""
    if pair.__class__ is not tuple or len(pair) != 2:
        return False
    member, weights = pair
    if not is_member(rows, member) or not are_weights(weights, len(rows)):
        return False
    *sums, bound, bottom = weighed(member, weights, len(costs))
    return sums == [-own * bottom for own in costs] and -bound * cost[1] >= cost[0] * bottom
