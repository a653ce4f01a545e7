"""The functions of the interface with their parameters, and what each parameter takes."""

from commonanswer import (
    answers, bars, certificates, checker, common, comparing, costs, mends, possible, seeing, widening,
)
from commonanswer.errors import (
    InvalidAnswer, InvalidChanges, InvalidCosts, InvalidDemand, InvalidDemands, InvalidName, InvalidSeen, InvalidSteps,
    NotASystem,
)
from commonanswer.systems import System
from tests.samples import FOUR, LONG, SHOP, SHOP_TEXT, THREE, TIGHT

# Of each module: its calls and the names of their parameters, in the order of the signature.
LISTED = (
    (answers, "is_sure", ("system", "answer")),
    (answers, "is_possible", ("system", "answer")),
    (answers, "rooms", ("system", "answer")),
    (answers, "member_with", ("system", "answer")),
    (answers, "member_against", ("system", "answer")),
    (common, "common", ("system",)),
    (common, "barring", ("system",)),
    (common, "sure_range", ("system", "name")),
    (possible, "possible", ("system",)),
    (possible, "possible_range", ("system", "name")),
    (costs, "worst", ("system", "costs")),
    (costs, "best", ("system", "costs")),
    (costs, "cheapest", ("system", "costs")),
    (costs, "worst_member", ("system", "costs")),
    (bars, "least_bars", ("system",)),
    (bars, "spare_rows", ("system",)),
    (widening, "widened", ("system", "steps")),
    (widening, "greatest_widening", ("system",)),
    (comparing, "is_within", ("one", "other")),
    (comparing, "straying", ("one", "other")),
    (comparing, "are_alike", ("one", "other")),
    (seeing, "fits", ("system", "seen")),
    (seeing, "fitting", ("system", "seen")),
    (seeing, "clash", ("system", "seen")),
    (mends, "holds", ("system", "demand")),
    (mends, "mends", ("system", "demands", "changes")),
    (checker, "accepts", ("claim", "certificate")),
    (certificates, "certify_all", ("system",)),
    (certificates, "certify_some", ("system",)),
    (certificates, "certify_serves", ("system", "costs")),
    (certificates, "certify_asks", ("system", "costs")),
    (certificates, "certify_within", ("one", "other")),
)
RIGHT = {
    "system": [SHOP, TIGHT, System(("x", "y"))],
    "one": [SHOP, TIGHT, System(("x", "y"))],
    "other": [SHOP, TIGHT, System(("x", "y"))],
    "answer": [FOUR, THREE, LONG],
    "name": ["x", "y"],
    "costs": [(2, 1), (0, 0), (-1000, 1000)],
    "steps": [0, 1, 1000],
    "seen": [(), (FOUR, THREE), (LONG,) * 8],
    "demand": [("all",), ("serves", (2, 1), 4), ("like", SHOP_TEXT)],
    "demands": [(("all",),), (), (("serves", (-1000, 0), -(10 ** 6)), ("sure", LONG), ("some",))],
    "claim": [("all", SHOP_TEXT), ("within", SHOP_TEXT, SHOP_TEXT), ("serves", SHOP_TEXT, (2, 1), 4, 1)],
    "certificate": [FOUR, (), None],
    "changes": [(("need", "x", (0, 0)),), (), (("need", "bound", None), ("need", "y", (-1, -1)))],
}
ERRORS = {
    "system": NotASystem, "one": NotASystem, "other": NotASystem, "answer": InvalidAnswer, "name": InvalidName,
    "costs": InvalidCosts, "steps": InvalidSteps, "seen": InvalidSeen, "demand": InvalidDemand,
    "demands": InvalidDemands, "changes": InvalidChanges,
}


def calls():
    """Each call of the interface with the names of its parameters."""
    return [(getattr(module, name), places) for module, name, places in LISTED]


def ways(call, places, passed):
    """All ways to pass these values: by position, by name in both orders, and the first one by position alone."""
    told = list(zip(places, passed))
    return [
        lambda: call(*passed),
        lambda: call(**dict(told)),
        lambda: call(**dict(told[::-1])),
        lambda: call(passed[0], **dict(told[1:])),
    ]
