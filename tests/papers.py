"""Claims and certificates as the tests judge them: by the words of the document, and by corners of the answers."""

from fractions import Fraction
from itertools import product
from math import gcd

from commonanswer.errors import InvalidText
from commonanswer.systems import System
from tests.reckoning import (
    are_weights, bars, is_answer, is_member, is_sure_at, keeps, least_cost, over_one_bottom, pieces, shows, within,
)

LENGTHS = {"all": 2, "barred": 2, "some": 2, "none": 2, "serves": 5, "asks": 5, "strays": 3, "within": 3}


def system_with(text):
    """The system with this text, None if it is none."""
    try:
        return System.read(text)
    except InvalidText:
        return None


def is_integer(value):
    """Whether a value is an integer."""
    return value.__class__ is int


def read_claim(claim):
    """The word, the system and the other parts of a claim, None for what is no claim."""
    if claim.__class__ is not tuple or not claim or claim[0].__class__ is not str:
        return None
    if LENGTHS.get(claim[0]) != len(claim) or system_with(claim[1]) is None:
        return None
    word, system = claim[0], system_with(claim[1])
    if word in ("strays", "within"):
        other = system_with(claim[2])
        return (word, system, other) if other is not None and other.unknowns == system.unknowns else None
    if word in ("serves", "asks"):
        costs, top, bottom = claim[2:]
        if costs.__class__ is not tuple or len(costs) != len(system.unknowns):
            return None
        if not all(is_integer(cost) and abs(cost) <= 1000 for cost in costs):
            return None
        if not is_integer(top) or not is_integer(bottom) or bottom < 1:
            return None
        return word, system, costs, Fraction(top, bottom)
    return word, system


def is_true(claim):
    """Whether what a claim says is true, by the corners of the answers."""
    word, system, *parts = read_claim(claim)
    many = len(system.unknowns)
    sure = pieces(system.rows, many, True)
    if word in ("some", "none"):
        return bool(pieces(system.rows, many, False)) == (word == "some")
    if word in ("all", "barred"):
        return bool(sure) == (word == "all")
    if word in ("within", "strays"):
        return within(system, parts[0]) == (word == "within")
    if not sure:
        return word == "asks"
    least = least_cost(sure, parts[0])
    if word == "serves":
        return least is None or Fraction(*least) <= parts[1]
    return least is not None and Fraction(*least) >= parts[1]


def is_sure_answer(value, system):
    """Whether a value is a sure answer."""
    return is_answer(value, len(system.unknowns)) and is_sure_at(system.rows, over_one_bottom(value))


def is_none_for(weights, rows, signs):
    """Whether a value is weights that show that there is no answer with these signs."""
    if not are_weights(weights, len(rows)):
        return False
    factors = [Fraction(*weight) for weight in weights]
    for at, sign in enumerate(signs):
        ends = [row[1][at][0 if sign == 1 else 1] for row in rows]
        if sign * sum(factor * end for factor, end in zip(factors, ends)) < 0:
            return False
    return sum(factor * row[2][1] for factor, row in zip(factors, rows)) < 0


def is_right(claim, certificate):
    """Whether these are a claim for the checker and a certificate for it."""
    told = read_claim(claim)
    if told is None:
        return False
    word, system, *parts = told
    rows, many = system.rows, len(system.unknowns)
    if word == "all":
        return is_sure_answer(certificate, system)
    if word == "strays":
        return is_sure_answer(certificate, system) and not is_sure_answer(certificate, parts[0])
    if word == "serves":
        if not is_sure_answer(certificate, system):
            return False
        return sum(cost * Fraction(*value) for cost, value in zip(parts[0], certificate)) <= parts[1]
    if word == "within":
        return certificate.__class__ is tuple and not certificate and within(system, parts[0])
    if word == "barred":
        return bars(rows, many, certificate)
    if word == "asks":
        return shows(rows, parts[0], certificate, (parts[1].numerator, parts[1].denominator))
    if certificate.__class__ is not tuple:
        return False
    if word == "some":
        if len(certificate) != 2 or not is_answer(certificate[0], many) or not is_member(rows, certificate[1]):
            return False
        return keeps(certificate[1], certificate[0])
    signs = list(product((-1, 1), repeat=many))
    return len(certificate) == len(signs) and all(map(is_none_for, certificate, [rows] * len(signs), signs))


def edits(value):
    """Values that differ from this one in one place: altered, of another kind, left out, put in, or as a list."""
    found = [None, [value], (value,), str(value), {}, True, False]
    if is_integer(value):
        found += [value + 1, value - 1, -value, value * 2, value * 10 ** 12 + 1, 0, 1, bool(value)]
    if isinstance(value, str):
        found += [value + " ", value.upper(), value.encode(), value[:-1], value.replace("1", "2", 1), 1]
        found += [value.replace("x", "y"), value.replace("-", "", 1), value + "\nrow more 0 0 0 0 0 0", "unknowns x"]
    if isinstance(value, tuple):
        found += [list(value), value[::-1], value + value[:1], value[1:], value[:-1], (), value + (None,)]
        if len(value) == 2 and all(map(is_integer, value)):
            found += near_fractions(*value)
        for at, part in enumerate(value):
            found += [(*value[:at], other, *value[at + 1:]) for other in edits(part)]
            found.append(value[:at] + value[at + 1:])
            found.append((*value[:at], part, *value[at:]))
    return found


def near_fractions(top, bottom):
    """Fractions that are very near to this one, and pairs for it that are not in lowest terms."""
    if bottom <= 0:
        return []
    found = [(2 * top, 2 * bottom), (-top, -bottom), (3 * top, 3 * bottom)]
    for step in (1, -1):
        moved = (top * 10 ** 25 + step, bottom * 10 ** 25)
        shared = gcd(*moved)
        found.append((moved[0] // shared, moved[1] // shared))
    return found
