"""[16] Papers: the claim that is due, its certificate, and that the checker accepts it and no other one."""

import unittest

from commonanswer.certificates import certify_all, certify_asks, certify_serves, certify_some, certify_within
from commonanswer.checker import accepts
from commonanswer.errors import InvalidCosts, NoSure, NotASystem, OtherUnknowns
from commonanswer.systems import System
from tests.papers import is_right, is_true
from tests.reckoning import UNKNOWNS, Dice, boxes, fraction, least_cost, pieces, systems, within
from tests.samples import SHOP, SHOP_TEXT, TIGHT, odd_values

NONE = System(("x", "y"), (("a", ((0, 0), (0, 0)), (-2, -1)),))
WORDS = ("all", "barred", "some", "none", "serves", "asks", "strays", "within")
# Systems in which the possible answers are few, or none.
APART = [
    System(UNKNOWNS[:many], tuple([
        (name, ((low, low + 1),) + ((2, 2),) * (many - 1) if low > 0 else ((low, low),) + ((-2, -2),) * (many - 1),
         (-9, bound)) for name, low in (("a", 2), ("b", -2), ("c", -3))
    ]))
    for many in (1, 2, 3) for bound in (-8, -2, -1, 0, 1)
]
MADE = systems(61) + boxes(62, 12) + APART


class Papers(unittest.TestCase):
    def paper(self, told, *claim):
        """This is a pair of this claim and a certificate for it, which the checker accepts under no other word."""
        self.assertEqual([told.__class__, len(told)], [tuple, 2])
        own, certificate = told
        self.assertEqual(own, claim)
        self.assertEqual([part.__class__ for part in own], [part.__class__ for part in claim])
        self.assertTrue(is_true(own), own)
        self.assertTrue(is_right(own, certificate), told)
        self.assertIs(accepts(own, certificate), True)
        for word in WORDS:
            if word != own[0]:
                self.assertIs(accepts((word, *own[1:]), certificate), False)
        return own[0]

    def test_all_and_some(self):
        words = {}
        for system in MADE:
            many = len(system.unknowns)
            sure, can = pieces(system.rows, many, True), pieces(system.rows, many, False)
            for told, word in ((certify_all(system), "all" if sure else "barred"),
                               (certify_some(system), "some" if can else "none")):
                self.paper(told, word, str(system))
                words[word, many] = words.get((word, many), 0) + 1
        self.assertEqual(len(words), 12)
        self.assertGreater(min(words.values()), 2, words)

    def test_serves_and_asks(self):
        found = {}
        for seed, system in enumerate(MADE):
            dice, many = Dice(seed), len(system.unknowns)
            sure = pieces(system.rows, many, True)
            for size in (0, 1, 5, 1000):
                costs = tuple([dice.throw(-size, size) for _ in range(many)])
                least = least_cost(sure, costs) if sure else None
                word = "no sure" if not sure else "no least" if least is None else "a least"
                found[word] = found.get(word, 0) + 1
                for call, own in ((certify_serves, "serves"), (certify_asks, "asks")):
                    if least is None:
                        with self.assertRaises(NoSure) as caught:
                            call(system, costs)
                        self.assertEqual(vars(caught.exception), {})
                    else:
                        self.assertEqual(fraction(*least), least)
                        self.paper(call(system, costs), own, str(system), costs, *least)
        self.assertTrue(all(found.get(word, 0) > 50 for word in ("no sure", "no least", "a least")), found)

    def test_serves_no_less_and_asks_no_more(self):
        for system in boxes(63, 15):
            costs = (3, -2, 7)[:len(system.unknowns)]
            if not pieces(system.rows, len(costs), True):
                continue
            (*serves, top, bottom), answer = certify_serves(system, costs)
            (*asks, _, _), pair = certify_asks(system, costs)
            for step in (1, 10 ** 9, 10 ** 30):
                self.assertIs(accepts((*serves, top * step - 1, bottom * step), answer), False)
                self.assertIs(accepts((*serves, top * step + 1, bottom * step), answer), True)
                self.assertIs(accepts((*asks, top * step + 1, bottom * step), pair), False)
                self.assertIs(accepts((*asks, top * step - 1, bottom * step), pair), True)
                self.assertIs(accepts((*asks, top * step, bottom * step), pair), True)

    def test_within(self):
        words = {}
        made = systems(64, most_rows=4) + boxes(65, 6)
        for seed, system in enumerate(made):
            dice, many = Dice(seed), len(system.unknowns)
            others = [own for own in made if own.unknowns == system.unknowns]
            others = [dice.pick(others), system, System(system.unknowns)] + [
                system.without(at) for at in range(len(system))
            ]
            for other in others:
                for one, two in ((system, other), (other, system)):
                    word = "within" if within(one, two) else "strays"
                    told = certify_within(one, two)
                    self.paper(told, word, str(one), str(two))
                    words[word, many] = words.get((word, many), 0) + 1
                    if word == "within":
                        self.assertEqual(told[1], ())
        self.assertEqual(len(words), 6)
        self.assertGreater(min(words.values()), 50, words)

    def test_without_rows(self):
        for many in (1, 2, 3):
            system = System(UNKNOWNS[:many])
            self.paper(certify_all(system), "all", str(system))
            self.paper(certify_some(system), "some", str(system))
            self.paper(certify_serves(system, (0,) * many), "serves", str(system), (0,) * many, 0, 1)
            self.paper(certify_asks(system, (0,) * many), "asks", str(system), (0,) * many, 0, 1)
            self.paper(certify_within(system, system), "within", str(system), str(system))

    def test_by_name(self):
        self.assertEqual(certify_all(system=SHOP), certify_all(SHOP))
        self.assertEqual(certify_some(system=SHOP), certify_some(SHOP))
        self.assertEqual(certify_serves(costs=(2, 1), system=SHOP), certify_serves(SHOP, (2, 1)))
        self.assertEqual(certify_asks(costs=(2, 1), system=SHOP), certify_asks(SHOP, (2, 1)))
        self.assertEqual(certify_within(other=TIGHT, one=SHOP), certify_within(SHOP, TIGHT))
        self.assertEqual([str(SHOP), str(TIGHT)], [SHOP_TEXT, SHOP_TEXT.replace("1 5 5", "1 3 5")])

    def test_example(self):
        self.assertEqual(
            [certify_all(SHOP)[0][0], certify_all(TIGHT)[0][0], certify_some(TIGHT)[0][0],
             certify_serves(SHOP, (2, 1))[0][2:], certify_asks(SHOP, (2, 1))[0][0]],
            ["all", "barred", "some", ((2, 1), 4, 1), "asks"],
        )
        self.assertEqual(certify_within(SHOP, TIGHT)[0][0], "strays")


class Errors(unittest.TestCase):
    def raised(self, kind, value, call, *passed):
        """The call raises just this error with the very value."""
        with self.assertRaises(kind) as caught:
            call(*passed)
        self.assertIs(caught.exception.__class__, kind)
        self.assertIs(caught.exception.given, value)

    def test_systems_and_costs(self):
        for value in odd_values():
            if not isinstance(value, System):
                for call in (certify_all, certify_some):
                    self.raised(NotASystem, value, call, value)
                for call in (certify_serves, certify_asks):
                    self.raised(NotASystem, value, call, value, None)
                    for system in (SHOP, NONE):
                        self.raised(InvalidCosts, value, call, system, value)
        for call in (certify_serves, certify_asks):
            for system in (SHOP, TIGHT, NONE, System(("x", "y"))):
                for value in ((1,), (1, 1, 1), (1001, 0), (0, -1001), [1, 1], (True, 1)):
                    self.raised(InvalidCosts, value, call, system, value)

    def test_two_systems(self):
        other = System(("y", "x"), SHOP.rows)
        for value in (None, SHOP_TEXT, [SHOP], (SHOP,)):
            self.raised(NotASystem, value, certify_within, value, other)
            self.raised(NotASystem, value, certify_within, value, None)
            self.raised(NotASystem, value, certify_within, SHOP, value)
        for two in (other, System(("x",)), System(("x", "y", "z")), System(("x", "z"))):
            self.raised(OtherUnknowns, two, certify_within, SHOP, two)
            self.raised(OtherUnknowns, SHOP, certify_within, two, SHOP)
