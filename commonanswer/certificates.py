"""Papers for the checker: pairs of a claim and a certificate that shows it."""

from commonanswer.answers import member_with
from commonanswer.common import barring, common
from commonanswer.comparing import straying
from commonanswer.costs import cheapest, worst, worst_member
from commonanswer.errors import NoSure
from commonanswer.possible import possible
from commonanswer.signs import cheapest_possible, sign_rows


def weights_for_none(system):
    """For each row of signs, the weights that show that no member has an answer with these signs."""
    costs = [0 for _ in system.unknowns]
    found = []
    for signs in sign_rows(len(costs)):
        _, weights = cheapest_possible(system.rows, costs, signs)
        found.append(weights)
    return tuple(found)


def certify_all(system):
    """The claim that all members have answers, or that some member has none, and its certificate."""
    answer = common(system)
    if answer is None:
        return (("barred", str(system)), barring(system))
    return (("all", str(system)), answer)


def certify_some(system):
    """The claim that some member has an answer, or that none has one, and its certificate."""
    answer = possible(system)
    if answer is None:
        return (("none", str(system)), weights_for_none(system))
    return (("some", str(system)), (answer, member_with(system, answer)))


def certify_serves(system, costs):
    """The claim that each member has an answer at the worst cost, and its certificate; NoSure."""
    answer = cheapest(system, costs)
    if answer is None:
        raise NoSure()
    top, bottom = worst(system, costs)
    return (("serves", str(system), costs, top, bottom), answer)


def certify_asks(system, costs):
    """The claim that some member has no answer below the worst cost, and its certificate; NoSure."""
    pair = worst_member(system, costs)
    if pair is None:
        raise NoSure()
    top, bottom = worst(system, costs)
    return (("asks", str(system), costs, top, bottom), pair)


def certify_within(one, other):
    """The claim that each sure answer of the first system is sure in the second one, or not, and its certificate."""
    answer = straying(one, other)
    if answer is None:
        return (("within", str(one), str(other)), ())
    return (("strays", str(one), str(other)), answer)
