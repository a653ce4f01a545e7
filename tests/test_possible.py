"""[2], [8] Possible answers: any, and how far each unknown can reach."""

import unittest
from itertools import product

from commonanswer.answers import is_possible
from commonanswer.errors import NoPossible
from commonanswer.possible import possible, possible_range
from commonanswer.systems import System
from tests.reckoning import UNKNOWNS, boxes, is_answer, is_possible_at, over_one_bottom, pieces, range_in, systems
from tests.samples import SHOP

SYSTEMS = systems(21, 2) + boxes(22, 30)


class Possible(unittest.TestCase):
    def none_possible(self, system):
        """There is no possible answer."""
        self.assertIsNone(possible(system), str(system))
        for name in system.unknowns:
            with self.assertRaises(NoPossible):
                possible_range(system, name)

    def some_possible(self, system):
        """There is a possible answer, a right one."""
        answer = possible(system)
        self.assertTrue(is_answer(answer, len(system.unknowns)), answer)
        self.assertTrue(is_possible_at(system.rows, over_one_bottom(answer)))
        self.assertIs(is_possible(system, answer), True)
        return answer

    def test_possible_answer_exactly_if_there_is_one(self):
        found = [0, 0]
        for system in SYSTEMS:
            can = bool(pieces(system.rows, len(system.unknowns), False))
            found[can] += 1
            (self.some_possible if can else self.none_possible)(system)
        self.assertGreater(min(found), 20)

    def test_ranges(self):
        found = {}
        for system in SYSTEMS:
            many = len(system.unknowns)
            own = pieces(system.rows, many, False)
            for at, name in enumerate(system.unknowns if own else ()):
                told = possible_range(system, name)
                self.assertEqual(told, range_in(own, at, many), str(system))
                self.assertEqual([told.__class__, len(told)], [tuple, 2])
                kind = tuple([end is None for end in told])
                found[kind] = found.get(kind, 0) + 1
        self.assertGreater(min(found.values()), 10)
        self.assertEqual(len(found), 4)

    def test_one_row_of_signs_alone(self):
        for many in (1, 2, 3):
            for signs in product((1, -1), repeat=many):
                rows = []
                for at, sign in enumerate(signs):
                    # With the other sign the least sum is at least 0, so it is never at most -1.
                    ends = tuple(sorted((-3 * sign, -2 * sign)))
                    rows.append(("abc"[at], tuple([ends if at == place else (0, 0) for place in range(many)]), (-9, -6)))
                system = System(UNKNOWNS[:many], tuple(rows))
                answer = self.some_possible(system)
                self.assertTrue(all(value[0] * sign > 0 for value, sign in zip(answer, signs)))
                for name, sign in zip(system.unknowns, signs):
                    told = ((2, 1), None) if sign == 1 else (None, (-2, 1))
                    self.assertEqual(possible_range(system, name), told)
                self.none_possible(system.more(("d", tuple([(sign, sign) for sign in signs]), (-1, 0))))

    def test_answers_with_a_gap_between_them(self):
        rows = (("a", ((-1, 1),), (-2, -1)), ("b", ((1, 1),), (5, 6)), ("c", ((-1, -1),), (3, 4)))
        system = System(("x",), rows)
        self.assertEqual(possible_range(system, "x"), ((-4, 1), (6, 1)))
        self.some_possible(system)
        self.assertIs(is_possible(system, ((0, 1),)), False)
        right = system.changed(("c", "bound", (-3, 0)))
        self.assertEqual(possible_range(right, "x"), ((1, 1), (6, 1)))
        left = system.changed(("b", "bound", (0, 0)))
        self.assertEqual(possible_range(left, "x"), ((-4, 1), (-1, 1)))
        self.none_possible(right.changed(("b", "bound", (0, 0))))

    def test_without_rows(self):
        for unknowns in (("x",), ("x", "y"), ("x", "y", "z")):
            system = System(unknowns)
            self.some_possible(system)
            for name in unknowns:
                self.assertEqual(possible_range(system, name), (None, None))

    def test_one_answer_alone(self):
        rows = (("a", ((3, 3), (0, 0)), (0, 1)), ("b", ((-3, -3), (0, 0)), (-2, -1)), ("c", ((0, 0), (-1, 1)), (-9, 0)))
        system = System(("x", "y"), rows)
        self.assertEqual(possible_range(system, "x"), ((1, 3), (1, 3)))
        self.assertEqual(possible_range(system, "y"), (None, None))
        rows = rows[:2] + (("c", ((0, 0), (1, 1)), (-5, -4)), ("d", ((0, 0), (-1, -1)), (4, 4)))
        self.assertEqual(possible(System(("x", "y"), rows)), ((1, 3), (-4, 1)))
        self.none_possible(System(("x", "y"), rows).changed(("d", "bound", (3, 3))))

    def test_row_that_no_answer_keeps(self):
        for bound in ((-1, -1), (-10000, -1)):
            self.none_possible(System(("x", "y"), (("a", ((0, 0), (0, 0)), bound),)))
        self.some_possible(System(("x", "y"), (("a", ((0, 0), (0, 0)), (-10000, 0)),)))
        self.some_possible(System(("x", "y"), (("a", ((0, 0), (0, 1)), (-10000, -1)),)))

    def test_examples_of_the_document(self):
        self.assertEqual(
            [is_possible(SHOP, possible(SHOP)), possible_range(SHOP, "x"), possible_range(SHOP, "y")],
            [True, ((0, 1), (5, 1)), ((0, 1), None)],
        )
