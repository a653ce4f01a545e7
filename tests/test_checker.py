"""[16] The checker: what it accepts, by the words of the document, and that it is true."""

import inspect
import unittest

from commonanswer.checker import accepts
from commonanswer.systems import System
from tests.papers import edits, is_right, is_true, read_claim
from tests.samples import FOUR, SHOP, SHOP_TEXT, THREE, TIGHT, Harsh, Same, odd_values

LONE = System(("x",), (("a", ((-1, 1),), (-1, -1)),))
NEVER = System(("x",), (("a", ((1, 2),), (-4, -3)), ("b", ((-4, -3),), (1, 3))))
APART = System(("x", "y"), (("a", ((1, 1), (1, 1)), (-2, -1)), ("b", ((-1, -1), (-1, -1)), (-5, 0))))
FREE = System(("x", "y"))
TIGHT_TEXT = str(TIGHT)


def numbers(*values):
    """These integers as fractions."""
    return tuple([(value, 1) for value in values])


SHOP_MEMBER = (
    (numbers(-1, -1), (-4, 1)), (numbers(1, 1), (5, 1)), (numbers(-1, 0), (0, 1)), (numbers(0, -1), (0, 1)),
)
TIGHT_MEMBER = (
    (numbers(-1, -1), (-4, 1)), (numbers(1, 1), (3, 1)), (numbers(-1, 0), (0, 1)), (numbers(0, -1), (0, 1)),
)
NEVER_WEIGHTS = (numbers(4, 3), numbers(1, 0))
HALF, ZERO, ONE = (1, 2), (0, 1), (1, 1)
# Right claims with right certificates, all made by hand, with each word more than once.
PAPERS = (
    (("all", SHOP_TEXT), FOUR), (("all", SHOP_TEXT), ((9, 7), (22, 7))), (("all", SHOP_TEXT), ((5, 1), (0, 1))),
    (("all", str(FREE)), ((-5, 3), (10 ** 39, 7))), (("all", str(System(("x",)))), (ZERO,)),
    (("barred", TIGHT_TEXT), (TIGHT_MEMBER, numbers(1, 1, 0, 0))),
    (("barred", TIGHT_TEXT), (TIGHT_MEMBER, numbers(3, 3, 0, 0))),
    (("barred", TIGHT_TEXT), (TIGHT_MEMBER, ((7, 4), (9, 4), HALF, HALF))),
    (("barred", str(LONE)), (((((0, 1),), (-1, 1)),), (ONE,))),
    (("barred", str(LONE)), (((((0, 1),), (-1, 1)),), ((10 ** 30, 7),))),
    (("some", SHOP_TEXT), (FOUR, SHOP_MEMBER)),
    (("some", TIGHT_TEXT), (THREE, ((numbers(-2, -1), (-3, 1)), *SHOP_MEMBER[1:]))),
    (("some", str(LONE)), ((ONE,), ((((-1, 1),), (-1, 1)),))),
    (("some", str(LONE)), (((3, 1),), ((((-1, 3),), (-1, 1)),))),
    (("some", str(FREE)), (FOUR, ())),
    (("serves", SHOP_TEXT, (2, 1), 4, 1), FOUR), (("serves", SHOP_TEXT, (2, 1), 8, 2), FOUR),
    (("serves", SHOP_TEXT, (2, 1), 9, 2), FOUR), (("serves", SHOP_TEXT, (0, -1), -5, 1), numbers(0, 5)),
    (("serves", str(FREE), (1000, -1000), -(10 ** 30), 1), ((-(10 ** 30), 1), ZERO)),
    (("asks", SHOP_TEXT, (2, 1), 4, 1), (SHOP_MEMBER, numbers(1, 0, 1, 0))),
    (("asks", SHOP_TEXT, (2, 1), 12, 3), (SHOP_MEMBER, numbers(1, 0, 1, 0))),
    (("asks", SHOP_TEXT, (2, 1), 39, 10), (SHOP_MEMBER, numbers(1, 0, 1, 0))),
    (("asks", SHOP_TEXT, (2, 1), -7, 5), (SHOP_MEMBER, numbers(1, 0, 1, 0))),
    (("asks", SHOP_TEXT, (0, 0), 0, 3), (SHOP_MEMBER, numbers(0, 0, 0, 0))),
    (("asks", TIGHT_TEXT, (5, 5), 10 ** 20, 1), (TIGHT_MEMBER, ((10 ** 20 + 5, 1), (10 ** 20, 1), ZERO, ZERO))),
    (("asks", str(FREE), (0, 0), 0, 1), ((), ())), (("asks", str(FREE), (0, 0), -1, 7), ((), ())),
    (("none", str(NEVER)), NEVER_WEIGHTS), (("none", str(NEVER)), (((3, 4), HALF), (HALF, (1, 8)))),
    (("none", str(APART)), (numbers(1, 1),) * 4),
    (("none", str(APART)), (numbers(1, 1), ((1, 7), (1, 7)), (HALF, HALF), numbers(9, 9))),
    (("strays", SHOP_TEXT, str(SHOP.changed(("room", "bound", (4, 5))))), numbers(0, 5)),
    (("strays", str(FREE), SHOP_TEXT), THREE), (("strays", str(FREE), TIGHT_TEXT), FOUR),
    (("within", SHOP_TEXT, SHOP_TEXT), ()), (("within", TIGHT_TEXT, SHOP_TEXT), ()), (("within", SHOP_TEXT, str(FREE)), ()),
    (("within", str(System(("x", "y"), SHOP.rows[::-1])), SHOP_TEXT), ()),
)


class Accepted(unittest.TestCase):
    def judged(self, claim, certificate):
        """What the checker says is what the words of the document say; what it accepts is true."""
        right = is_right(claim, certificate)
        self.assertIs(accepts(claim, certificate), right, (claim, certificate))
        if right:
            self.assertTrue(is_true(claim), claim)
        return right

    def test_made_by_hand(self):
        for claim, certificate in PAPERS:
            self.assertTrue(self.judged(claim, certificate), (claim, certificate))
        self.assertEqual(
            {claim[0] for claim, _ in PAPERS},
            {"all", "barred", "some", "none", "serves", "asks", "strays", "within"},
        )

    def test_by_position_and_by_name(self):
        self.assertEqual(list(inspect.signature(accepts).parameters), ["claim", "certificate"])
        for claim, certificate in PAPERS:
            self.assertIs(accepts(certificate=certificate, claim=claim), True)
            self.assertIs(accepts(claim, certificate=certificate), True)
            self.assertIs(accepts(claim, claim), False)
            self.assertIs(accepts(certificate, claim), False)

    def test_certificates_with_one_edit(self):
        kept = 0
        for claim, certificate in PAPERS:
            for other in edits(certificate):
                kept += self.judged(claim, other)
        self.assertGreater(kept, 100)

    def test_claims_with_one_edit(self):
        kept = 0
        for claim, certificate in PAPERS:
            for other in edits(claim):
                kept += self.judged(other, certificate)
        self.assertGreater(kept, 20)

    def test_under_other_words(self):
        for claim, certificate in PAPERS:
            for word in ("all", "barred", "some", "none", "serves", "asks", "strays", "within", "All", "sure", "", "like"):
                self.judged((word, *claim[1:]), certificate)
                self.judged((word, *claim[1:], *claim[1:]), certificate)
                for other, another in PAPERS:
                    self.judged((word, *other[1:]), certificate)
                    self.judged(claim, another)

    def test_values_of_all_kinds(self):
        claim, certificate = PAPERS[0]
        for value in odd_values() + [Same(), Harsh(), SHOP, (Harsh(), SHOP_TEXT), (Same(), SHOP_TEXT), 10 ** 39, b"all"]:
            self.assertIs(accepts(value, certificate), False)
            self.assertIs(accepts(value, value), False)
            self.assertIs(accepts(("all", value), certificate), False)
            self.assertIs(accepts((value, SHOP_TEXT), certificate), False)
            for claim, certificate in PAPERS:
                if claim[0] != "within" or not isinstance(value, tuple) or len(value) > 0:
                    self.judged(claim, value)
                for at in range(len(claim)):
                    if at < 3 or value.__class__ is not int:
                        self.assertIs(accepts((*claim[:at], value, *claim[at + 1:]), certificate), False)
                self.assertIs(accepts(claim, (value, certificate)), False)
                self.assertIs(accepts(claim, (certificate, value)), False)
                self.assertIs(accepts([*claim], certificate), False)

    def test_texts_that_are_none(self):
        for text in (SHOP_TEXT + "\n", SHOP_TEXT + " ", SHOP_TEXT.replace("5 5", "5 05"), SHOP_TEXT.replace("5 5", "5 4"),
                     SHOP_TEXT.replace("rest", "more"), SHOP_TEXT.replace("0 0", "-0 0"), SHOP_TEXT.encode(), SHOP,
                     SHOP_TEXT.replace("unknowns", "names"), SHOP_TEXT.replace("x y", "x x"), "", None, [SHOP_TEXT]):
            self.assertIs(accepts(("all", text), FOUR), False)
            self.assertIs(accepts(("serves", text, (2, 1), 4, 1), FOUR), False)
            self.assertIs(accepts(("some", text), (FOUR, SHOP_MEMBER)), False)
            self.assertIs(accepts(("within", text, SHOP_TEXT), ()), False)
            self.assertIs(accepts(("within", SHOP_TEXT, text), ()), False)
            self.assertIs(accepts(("strays", str(FREE), text), THREE), False)

    def test_other_unknowns(self):
        for unknowns in (("y", "x"), ("x", "z"), ("a", "b")):
            other = str(System(unknowns, SHOP.rows))
            for one, two in ((SHOP_TEXT, other), (other, SHOP_TEXT), (other, str(FREE)), (str(FREE), other)):
                self.assertIs(accepts(("within", one, two), ()), False)
                self.assertIs(accepts(("strays", one, two), THREE), False)
            self.assertIs(accepts(("within", other, other), ()), True)
            self.assertIs(accepts(("strays", str(System(unknowns)), other), THREE), True)
        for many in (1, 3):
            other = str(System(("x", "y", "z")[:many]))
            self.assertIs(accepts(("within", SHOP_TEXT, other), ()), False)
            self.assertIs(accepts(("strays", other, SHOP_TEXT), numbers(*range(many))), False)

    def test_short_by_little(self):
        for step in range(1, 40, 6):
            small = 10 ** step
            self.assertIs(accepts(("serves", SHOP_TEXT, (2, 1), 4 * small - 1, small), FOUR), False)
            self.assertIs(accepts(("serves", SHOP_TEXT, (2, 1), 4 * small, small), FOUR), True)
            self.assertIs(accepts(("asks", SHOP_TEXT, (2, 1), 4 * small + 1, small),
                                  (SHOP_MEMBER, numbers(1, 0, 1, 0))), False)
            self.assertIs(accepts(("asks", SHOP_TEXT, (2, 1), 4 * small, small),
                                  (SHOP_MEMBER, numbers(1, 0, 1, 0))), True)
            one = str(System(("x",), (("a", ((1, 1),), (4, 4)),)))
            other = str(System(("x",), (("a", ((1, 1),), (5, 5)),)))
            for top, kept in ((4 * small + 1, False), (4 * small - 1, True)):
                self.assertIs(accepts(("all", one), ((top, small),)), kept)
                self.assertIs(accepts(("some", one), (((top, small),), ((numbers(1), (4, 1)),))), kept)
                self.assertIs(accepts(("strays", other, one), ((top, small),)), not kept)

    def test_just_and_a_little_beyond(self):
        top = 10 ** 38
        bottom = 10 ** 37
        text = str(System(("x",), (("a", ((1, 2),), (9, 10)),)))
        for value, sure, can in (((45, 10), True, True), ((45 * bottom + 1, top), False, True), ((10, 1), False, True),
                                 ((top + 1, bottom), False, False)):
            answer = (value,) if value != (45, 10) else ((9, 2),)
            self.assertIs(accepts(("all", text), answer), sure)
            self.assertIs(accepts(("some", text), (answer, ((((1, 1),), (10, 1)),))), can)
        for number, bound, kept in (((1, 1), (10, 1), True), ((bottom - 1, bottom), (10, 1), False), ((2, 1), (10, 1), False),
                                    ((1, 1), (top + 1, bottom), False), ((1, 1), (top - 1, bottom), False)):
            self.assertIs(accepts(("some", text), (((10, 1),), (((number,), bound),))), kept)

    def test_weights(self):
        pair = ("barred", TIGHT_TEXT)
        for weights, kept in (
            (numbers(1, 1, 0, 0), True), (numbers(0, 0, 0, 0), False), (numbers(1, 1, 0, -1), False),
            (numbers(-1, -1, 0, 0), False), (numbers(1, 1, 0), False), (numbers(1, 1, 0, 0, 0), False),
            (((2, 2), ONE, ZERO, ZERO), False), ((ONE, ONE, (0, 2), ZERO), False), (numbers(2, 1, 0, 0), False),
            (numbers(4, 5, 1, 1), True), (numbers(3, 4, 1, 1), False), (numbers(1, 2, 1, 1), False),
            (((1, 10 ** 30), (1, 10 ** 30), ZERO, ZERO), True), ([*numbers(1, 1, 0, 0)], False),
        ):
            self.assertIs(accepts(pair, (TIGHT_MEMBER, weights)), kept, weights)
            self.assertIs(is_right(pair, (TIGHT_MEMBER, weights)), kept)

    def test_signs(self):
        claim = ("none", str(System(("x",), (("a", ((-1, -1),), (-2, -2)), ("b", ((1, 1),), (-2, -2))))))
        for first, second, kept in (((0, 1), (1, 0), False), ((1, 0), (0, 1), True), ((1, 1), (1, 1), True),
                                    ((2, 1), (1, 2), True), ((1, 2), (1, 1), False), ((0, 0), (1, 1), False)):
            self.assertIs(self.judged(claim, (numbers(*first), numbers(*second))), kept)
        self.assertIs(accepts(claim, (numbers(1, 1),)), False)
        self.assertIs(accepts(claim, (numbers(1, 1),) * 3), False)

    def test_systems_stay_as_they_were(self):
        before = (SHOP_TEXT, TIGHT_TEXT)
        first = [accepts(*paper) for paper in PAPERS]
        self.assertEqual([accepts(*paper) for paper in PAPERS[::-1]], first[::-1])
        self.assertEqual((str(SHOP), str(TIGHT)), before)

    def test_example(self):
        self.assertIs(accepts(("barred", str(LONE)), (((((0, 1),), (-1, 1)),), ((1, 1),))), True)
        self.assertIs(accepts(("all", str(LONE)), ((9, 1),)), False)
        self.assertIsNone(read_claim(("all", str(LONE), 1)))
