"""A small checker of claims: it believes nothing but the sums that it reckons itself."""

from commonanswer.answers import is_sure
from commonanswer.checks import are_costs, is_answer, system_in
from commonanswer.comparing import is_within
from commonanswer.ratios import dot, is_fraction, opposite, weighed
from commonanswer.signs import possible_limit, sign_rows
from commonanswer.systems import is_integer, is_one_of, is_tuple_of


def is_number_within(value, stretch):
    """Whether a value is a fraction within a stretch."""
    return is_fraction(value) and stretch[0] * value[1] <= value[0] <= stretch[1] * value[1]


def is_member_row(value, row):
    """Whether a value is a pair of numbers and a bound, each within its stretch of a row."""
    if not is_tuple_of(value, 2) or not is_tuple_of(value[0], len(row[1])):
        return False
    parts, stretches = (*value[0], value[1]), (*row[1], row[2])
    return all([is_number_within(part, stretch) for part, stretch in zip(parts, stretches)])


def is_member(value, rows):
    """Whether a value is a member of a system with these rows."""
    return is_tuple_of(value, len(rows)) and all([is_member_row(own, row) for own, row in zip(value, rows)])


def is_weight(value):
    """Whether a value is a fraction that is not below 0."""
    return is_fraction(value) and value[0] >= 0


def are_weights(value, many):
    """Whether a value is weights for so many rows."""
    return is_tuple_of(value, many) and all([is_weight(weight) for weight in value])


def is_at_most(one, other):
    """Whether a fraction is at most another one, which need not be in lowest terms."""
    return one[0] * other[1] <= other[0] * one[1]


def is_sure_answer(value, system):
    """Whether a value is a sure answer of a system."""
    return is_answer(value, len(system.unknowns)) and is_sure(system, value)


def keeps(member, answer):
    """Whether an answer is one of a member."""
    return all([is_at_most(weighed(numbers, answer), bound) for numbers, bound in member])


def asks_with(value, rows, costs):
    """Whether a value is a pair of a member and weights whose sums for the unknowns are 0 less the costs."""
    if not is_tuple_of(value, 2) or not is_member(value[0], rows) or not are_weights(value[1], len(rows)):
        return False
    member, weights = value
    sums = [weighed(weights, [numbers[at] for numbers, _ in member]) for at in range(len(costs))]
    return sums == [(-cost, 1) for cost in costs]


def weighed_bound(value):
    """The sum of weight times bound of a pair of a member and weights."""
    member, weights = value
    return weighed(weights, [bound for _, bound in member])


def bars_signs(weights, rows, signs):
    """Whether a value is weights that show that no member has an answer with these signs."""
    if not are_weights(weights, len(rows)):
        return False
    limits = [possible_limit(row, signs) for row in rows]
    sums = [dot([numbers[at] for numbers, _ in limits], weights) for at in range(len(signs))]
    return all([top >= 0 for top, _ in sums]) and dot([bound for _, bound in limits], weights)[0] < 0


def is_cost_claim(parts, system):
    """Whether behind the text of a claim stand costs, and a top and a bottom."""
    costs, top, bottom = parts
    return are_costs(costs, len(system.unknowns)) and is_integer(top) and is_integer(bottom) and bottom > 0


def shows_all(system, parts, certificate):
    """Whether a certificate shows that all members have answers."""
    return is_sure_answer(certificate, system)


def shows_barred(system, parts, certificate):
    """Whether a certificate shows that some member has no answer."""
    if not asks_with(certificate, system.rows, [0 for _ in system.unknowns]):
        return False
    return weighed_bound(certificate)[0] < 0


def shows_some(system, parts, certificate):
    """Whether a certificate shows that some member has an answer."""
    if not is_tuple_of(certificate, 2):
        return False
    answer, member = certificate
    if not is_answer(answer, len(system.unknowns)) or not is_member(member, system.rows):
        return False
    return keeps(member, answer)


def shows_none(system, parts, certificate):
    """Whether a certificate shows that no member has an answer."""
    found = sign_rows(len(system.unknowns))
    if not is_tuple_of(certificate, len(found)):
        return False
    return all([bars_signs(weights, system.rows, signs) for signs, weights in zip(found, certificate)])


def shows_serves(system, parts, certificate):
    """Whether a certificate shows that each member has an answer that costs at most so much."""
    if not is_cost_claim(parts, system) or not is_sure_answer(certificate, system):
        return False
    return is_at_most(dot(parts[0], certificate), parts[1:])


def shows_asks(system, parts, certificate):
    """Whether a certificate shows that some member has no answer that costs less than so much."""
    if not is_cost_claim(parts, system) or not asks_with(certificate, system.rows, parts[0]):
        return False
    return is_at_most(weighed_bound(certificate), opposite(parts[1:]))


def shows_strays(system, parts, certificate):
    """Whether a certificate shows that some sure answer is not sure in another system."""
    other = system_in(parts[0])
    if other is None or other.unknowns != system.unknowns:
        return False
    return is_sure_answer(certificate, system) and not is_sure(other, certificate)


def shows_within(system, parts, certificate):
    """Whether a certificate, which is always empty, shows that each sure answer is sure in another system."""
    other = system_in(parts[0])
    if other is None or other.unknowns != system.unknowns:
        return False
    return is_tuple_of(certificate, 0) and is_within(system, other)


# How many elements claims with these words have.
LENGTHS = {"all": 2, "barred": 2, "some": 2, "none": 2, "serves": 5, "asks": 5, "strays": 3, "within": 3}
PROOFS = {
    "all": shows_all, "barred": shows_barred, "some": shows_some, "none": shows_none, "serves": shows_serves,
    "asks": shows_asks, "strays": shows_strays, "within": shows_within,
}


def accepts(claim, certificate):
    """Whether a value is a claim for the checker, and another one is a certificate for it."""
    if not isinstance(claim, tuple) or len(claim) == 0 or not is_one_of(claim[0], list(LENGTHS)):
        return False
    if len(claim) != LENGTHS[claim[0]]:
        return False
    system = system_in(claim[1])
    if system is None:
        return False
    shows = PROOFS[claim[0]]
    return shows(system, claim[2:], certificate)
