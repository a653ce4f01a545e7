"""The calls of the interface with their parameters, and what each parameter takes and does not take."""

from fractions import Fraction

from commonanswer import answers, bars, common, comparing, costs, possible, widening
from commonanswer.errors import InvalidAnswer, InvalidCosts, InvalidName, InvalidSteps, NotASystem
from commonanswer.systems import System
from tests.samples import SHOP, Harsh, Same, odd_values

# Of each module: its calls and the names of their parameters, in the order of the signature.
LISTED = (
    (answers, "is_sure", ("system", "answer")),
    (answers, "is_possible", ("system", "answer")),
    (answers, "rooms", ("system", "answer")),
    (answers, "member_with", ("system", "answer")),
    (answers, "member_against", ("system", "answer")),
    (common, "common", ("system",)),
    (common, "barring", ("system",)),
    (common, "sure_range", ("system", "name")),
    (possible, "possible", ("system",)),
    (possible, "possible_range", ("system", "name")),
    (costs, "worst", ("system", "costs")),
    (costs, "best", ("system", "costs")),
    (costs, "cheapest", ("system", "costs")),
    (costs, "worst_member", ("system", "costs")),
    (bars, "least_bars", ("system",)),
    (bars, "spare_rows", ("system",)),
    (widening, "widened", ("system", "steps")),
    (widening, "greatest_widening", ("system",)),
    (comparing, "is_within", ("one", "other")),
    (comparing, "straying", ("one", "other")),
    (comparing, "are_alike", ("one", "other")),
)
TIGHT = SHOP.changed(("room", "bound", (3, 5)))
RIGHT = {
    "system": [SHOP, TIGHT, System(("x", "y"))],
    "one": [SHOP, TIGHT, System(("x", "y"))],
    "other": [SHOP, TIGHT, System(("x", "y"))],
    "answer": [((0, 1), (4, 1)), ((3, 2), (0, 1)), ((-(10 ** 39), 10 ** 39 + 1), (0, 1))],
    "name": ["x", "y"],
    "costs": [(2, 1), (0, 0), (-1000, 1000)],
    "steps": [0, 1, 1000],
}
ERRORS = {
    "system": NotASystem, "one": NotASystem, "other": NotASystem, "answer": InvalidAnswer, "name": InvalidName,
    "costs": InvalidCosts, "steps": InvalidSteps,
}
ONE = (1, 1)
FRACTIONS_WRONG = [
    (2, 2), (2, 4), (-3, 3), (0, 2), (0, 10), (10 ** 39, 10), (-(10 ** 38), 10 ** 39), (6, 4), (-6, 4), (1, 0), (0, 0),
    (-1, 0), (1, -1), (-1, -1), (0, -1), (3, -2), (True, 1), (1, True), (True, True), (False, 1), (0, False), (0, True),
    [1, 1], (), (1,), (1, 1, 1), ((1, 1),), ((1, 1), 1), (1, (1, 1)), ((1,), (1,)), "11", "1", "1/1", b"11", 0, 1,
    None, True, False, {1: 1, 2: 2}, (None, 1), (1, None), ("1", "1"), ("1", 1), (1, "1"), ([1], [1]), ([], 1),
    Fraction(1, 2), (Fraction(1, 1), 1), (Same(), Same()), (1, Same()), (Same(), 1), (Harsh(), Harsh()), (1, Harsh()),
]
COSTS_WRONG = [
    1001, -1001, 10 ** 39, -(10 ** 39), True, False, None, "1", "", b"1", (1,), [1], (), [], {}, (1, 1), ((1, 1),),
    Fraction(1, 1), Same(), Harsh(), SHOP, 10000,
]


def systems_wrong():
    """Values that are no systems."""
    return [value for value in odd_values() if not isinstance(value, System)] + [
        str(SHOP), (SHOP.unknowns, SHOP.rows), SHOP.rows, SHOP.unknowns, (SHOP,), [SHOP], {"x": SHOP}, (SHOP, TIGHT),
    ]


def answers_wrong():
    """Values that are no answers for two unknowns."""
    pairs = [pair for value in FRACTIONS_WRONG + odd_values() for pair in ((value, ONE), (ONE, value))]
    return FRACTIONS_WRONG + odd_values() + pairs + [
        [ONE, ONE], (ONE,), (ONE, ONE, ONE), ((ONE, ONE),), ((ONE, ONE), ONE), (1, 1), (1, 1, 1, 1), {"x": ONE, "y": ONE},
        "x", "1 1", ([1, 1], [1, 1]), [(1, 1), (1, 1)], ((ONE, ONE), (ONE, ONE)),
    ]


def names_wrong():
    """Values that are no unknowns of systems with the unknowns x and y."""
    return odd_values() + ["z", "bound", "need", "room", "xy", "X", "", "x ", " x", b"x", ["x"], ("x",), ("x", "y"), 0, 1]


def costs_wrong():
    """Values that are no costs of two unknowns."""
    pairs = [pair for value in COSTS_WRONG + odd_values() for pair in ((value, 1), (1, value)) if not is_cost(value)]
    return pairs + odd_values() + [
        [1, 1], (1,), (1, 1, 1), ((1, 1),), ((1, 1), (1, 1)), ((1, 1), 1), 1, 0, "11", b"11", {"x": 1, "y": 1}, {0: 1},
        ([1, 1],), (1, [1]), (1, True), (False, False), (1001, 1), (1, -1001), (ONE, ONE),
    ]


def is_cost(value):
    """Whether a value is a cost of one unknown."""
    return value.__class__ is int and -1000 <= value <= 1000


def steps_wrong():
    """Values that are no numbers of steps."""
    return [value for value in odd_values() if value.__class__ is not int] + [
        -1, -2, -1000, 1001, 1002, 10000, 10 ** 39, -(10 ** 39), "0", "1", b"1", (0,), [1], (1, 1), Fraction(1, 1),
    ]


WRONG = {
    "system": systems_wrong(), "one": systems_wrong(), "other": systems_wrong(), "answer": answers_wrong(),
    "name": names_wrong(), "costs": costs_wrong(), "steps": steps_wrong(),
}


def calls():
    """Each call of the interface with the names of its parameters."""
    return [(getattr(module, name), places) for module, name, places in LISTED]


def ways(call, places, passed):
    """All ways to pass these values: by position, by name in both orders, and the first one by position alone."""
    told = list(zip(places, passed))
    return [
        lambda: call(*passed),
        lambda: call(**dict(told)),
        lambda: call(**dict(told[::-1])),
        lambda: call(passed[0], **dict(told[1:])),
    ]
