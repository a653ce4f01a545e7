"""[12] Systems widened by steps, and the most steps with which there is a sure answer."""

import unittest
from fractions import Fraction

from commonanswer.common import common
from commonanswer.errors import BadValue, InvalidSteps, NoSure
from commonanswer.systems import System
from commonanswer.widening import greatest_widening, widened
from tests.reckoning import boxes, pieces, systems
from tests.samples import SHOP

LOOSE = System(("x",), (("up", ((1, 2),), (40, 50)), ("down", ((-3, -2),), (-10, -8))))
SYSTEMS = systems(51) + boxes(52, 40)


def own_rows(system, steps):
    """The rows of a system with all stretches wider by some steps."""
    return tuple([
        (name, tuple([(low - steps, high + steps) for low, high in stretches]), (bound[0] - steps, bound[1] + steps))
        for name, stretches, bound in system.rows
    ])


def has_sure(system, steps):
    """Whether a system has a sure answer when it is wider by some steps, by own reckoning."""
    return bool(pieces(own_rows(system, steps), len(system.unknowns), True))


class Widened(unittest.TestCase):
    def wrong(self, system, steps):
        """All ways to widen a system by these steps raise InvalidSteps with them."""
        for way in (
            lambda: widened(system, steps), lambda: widened(system, steps=steps),
            lambda: widened(steps=steps, system=system),
        ):
            with self.subTest(steps=steps), self.assertRaises(InvalidSteps) as caught:
                way()
            self.assertIs(caught.exception.given, steps)
            self.assertIsInstance(caught.exception, BadValue)

    def test_all_stretches_of_all_rows(self):
        for system in SYSTEMS:
            before = str(system)
            numbers = [number for _, stretches, bound in system.rows for pair in (*stretches, bound) for number in pair]
            for steps in (0, 1, 2, 999, 1000):
                if all(abs(number) + steps <= 10000 for number in numbers):
                    wider = widened(system, steps)
                    self.assertIs(wider.__class__, System)
                    self.assertEqual([wider.unknowns, wider.rows], [system.unknowns, own_rows(system, steps)])
            self.assertEqual(widened(system, 0), system)
            self.assertEqual(str(system), before)

    def test_by_hand(self):
        row = ("need", ((-5, 2), (-4, 2)), (-7, 0))
        self.assertEqual(widened(SHOP, 3).rows[0], row)
        self.assertEqual(widened(SHOP, steps=3).names, SHOP.names)
        self.assertEqual(widened(system=SHOP, steps=1000).rows[3], ("rest", ((-1000, 1000), (-1001, 999)), (-1000, 1000)))

    def test_without_rows(self):
        for steps in (0, 1, 1000):
            self.assertEqual(widened(System(("x", "y")), steps), System(("x", "y")))
        self.wrong(System(("x", "y")), 1001)

    def test_numbers_beyond_the_limit(self):
        for number, pair in ((10000, (0, 10000)), (9990, (-3, 9990)), (-10000, (-10000, 0)), (-9000, (-9000, 9000))):
            most = 10000 - abs(number)
            for row in (("a", (pair, (0, 0)), (1, 1)), ("a", ((0, 0), pair), (1, 1)), ("a", ((0, 0), (0, 0)), pair)):
                system = System(("x", "y"), (("b", ((1, 1), (2, 2)), (3, 3)), row))
                self.assertEqual(widened(system, most).rows, own_rows(system, most))
                for steps in (most + 1, most + 2, 1000):
                    if steps > most:
                        self.wrong(system, steps)

    def test_no_steps(self):
        for steps in (
            -1, -1000, 1001, 10 ** 39, -(10 ** 39), True, False, None, "1", "", b"1", (1,), [1], {1: 1}, Fraction(1, 1), SHOP,
        ):
            self.wrong(SHOP, steps)
            self.wrong(System(("x",)), steps)

    def test_example_of_the_document(self):
        self.assertEqual(widened(LOOSE, 1).rows[0], ("up", ((0, 3),), (39, 51)))


class Greatest(unittest.TestCase):
    def test_against_own_reckoning(self):
        found = {}
        for system in SYSTEMS:
            if not has_sure(system, 0):
                with self.assertRaises(NoSure):
                    greatest_widening(system)
                continue
            most = greatest_widening(system)
            self.assertIs(most.__class__, int)
            self.assertTrue(0 <= most <= 1000)
            self.assertTrue(has_sure(system, most), str(system))
            self.assertTrue(most == 1000 or not has_sure(system, most + 1), str(system))
            kind = most if most in (0, 1000) else "between"
            found[kind] = found.get(kind, 0) + 1
        self.assertGreater(min(found.values()), 10)
        self.assertEqual(len(found), 3)

    def test_each_number_of_steps(self):
        # The answer 0 keeps this row as long as LOW of the bound is not below 0; no other one keeps it longer.
        for most in (0, 1, 2, 3, 7, 499, 500, 501, 511, 512, 998, 999, 1000, 1001, 10000):
            system = System(("x", "y"), (("a", ((-1, 1), (-3, 2)), (most, 10000)),))
            self.assertEqual(greatest_widening(system), min(most, 1000))
            self.assertEqual(greatest_widening(system=system), min(most, 1000))

    def test_numbers_beyond_the_limit(self):
        rows = (("a", ((-10000, 10000),), (800, 10000)), ("b", ((10000, 10000),), (9999, 10000)))
        system = System(("x",), rows)
        self.assertEqual(greatest_widening(system), 800)
        with self.assertRaises(InvalidSteps):
            widened(system, 1)
        rows = (("a", ((9000, 9000),), (10000, 10000)), ("b", ((-9000, -9000),), (-8100, -8100)))
        most = greatest_widening(System(("x",), rows))
        self.assertTrue(has_sure(System(("x",), rows), most))
        self.assertFalse(has_sure(System(("x",), rows), most + 1))
        self.assertTrue(0 < most < 1000)

    def test_equations(self):
        # Two rows of both signs tell an equation, which nothing keeps any more in a wider system.
        for number in (-10000, -5, 0, 5, 10000):
            rows = (("a", ((1, 1),), (number, number)), ("b", ((-1, -1),), (-number, -number)))
            self.assertEqual(greatest_widening(System(("x",), rows)), 0)
            rows = tuple([(name, ((0, 0), *stretches), bound) for name, stretches, bound in rows])
            self.assertEqual(greatest_widening(System(("y", "x"), rows)), 0)

    def test_without_rows(self):
        for unknowns in (("x",), ("x", "y"), ("x", "y", "z")):
            self.assertEqual(greatest_widening(System(unknowns)), 1000)

    def test_no_sure_answer(self):
        for system in (SHOP.changed(("room", "bound", (3, 5))), System(("x",), (("a", ((0, 0),), (-1, 0)),))):
            self.assertIsNone(common(system))
            for way in (lambda: greatest_widening(system), lambda: greatest_widening(system=system)):
                with self.assertRaises(NoSure):
                    way()

    def test_examples_of_the_document(self):
        self.assertEqual([greatest_widening(LOOSE), greatest_widening(SHOP)], [1, 0])
