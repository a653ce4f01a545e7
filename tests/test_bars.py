"""[11] Rows that bar together, and spare rows."""

import unittest
from itertools import combinations

from commonanswer.bars import least_bars, spare_rows
from commonanswer.common import common
from commonanswer.systems import System
from tests.reckoning import boxes, is_piece_within, pieces, systems
from tests.samples import SHOP, TIGHT

SYSTEMS = systems(41) + boxes(42, 20)


def own_bars(system):
    """The sets of rows without a sure answer of which no proper part is without one."""
    found = []
    for size in range(len(system) + 1):
        for part in combinations(range(len(system)), size):
            rows = tuple([system.rows[at] for at in part])
            if not any(set(bar) < set(part) for bar in found) and not pieces(rows, len(system.unknowns), True):
                found.append(part)
    return tuple(found)


def own_spare(system):
    """The indexes of the rows that all sure answers of the other ones keep."""
    many = len(system.unknowns)
    return tuple([
        at for at, row in enumerate(system.rows)
        if is_piece_within(pieces(system.rows[:at] + system.rows[at + 1:], many, True), (row,))
    ])


class Bars(unittest.TestCase):
    def test_against_own_reckoning(self):
        found = {}
        for system in SYSTEMS:
            told = least_bars(system)
            self.assertEqual(told, own_bars(system), str(system))
            self.assertEqual([told.__class__] + [bar.__class__ for bar in told], [tuple] * (len(told) + 1))
            self.assertIs(told == (), common(system) is not None)
            for bar in told:
                found[len(bar)] = found.get(len(bar), 0) + 1
            found["more"] = found.get("more", 0) + (len(told) > 1)
        for kind in (1, 2, 3, "more"):
            self.assertGreater(found[kind], 10)

    def test_those_with_fewer_rows_first(self):
        rows = (
            ("a", ((1, 1),), (0, 0)), ("b", ((2, 2),), (1, 1)), ("c", ((0, 0),), (-1, -1)), ("d", ((-1, -1),), (-1, -1)),
            ("e", ((-1, 1),), (-5, 5)), ("f", ((1, 1),), (9, 9)),
        )
        system = System(("x",), rows)
        self.assertEqual(least_bars(system), ((2,), (4,), (0, 3), (1, 3)))
        self.assertEqual(least_bars(system.without(4)), ((2,), (0, 3), (1, 3)))
        self.assertEqual(least_bars(system.without(2)), ((3,), (0, 2), (1, 2)))

    def test_all_rows_together(self):
        rows = (
            ("a", ((1, 1), (1, 1), (1, 1)), (2, 2)), ("b", ((-1, -1), (0, 0), (0, 0)), (-1, -1)),
            ("c", ((0, 0), (-1, -1), (0, 0)), (-1, -1)), ("d", ((0, 0), (0, 0), (-1, -1)), (-1, -1)),
        )
        self.assertEqual(least_bars(System(("x", "y", "z"), rows)), ((0, 1, 2, 3),))
        self.assertEqual(least_bars(System(("x", "y", "z"), rows).changed(("a", "bound", (3, 3)))), ())

    def test_without_rows_and_with_a_sure_answer(self):
        for system in (System(("x",)), System(("x", "y", "z")), SHOP):
            self.assertEqual(least_bars(system), ())

    def test_examples_of_the_document(self):
        self.assertEqual([least_bars(SHOP), least_bars(TIGHT)], [(), ((0, 1),)])


class Spare(unittest.TestCase):
    def test_against_own_reckoning(self):
        found = {}
        for system in SYSTEMS:
            told = spare_rows(system)
            self.assertEqual(told, own_spare(system), str(system))
            self.assertIs(told.__class__, tuple)
            for at in range(len(system)):
                kind = (at in told, common(system) is not None)
                found[kind] = found.get(kind, 0) + 1
        self.assertGreater(min(found.values()), 20)
        self.assertEqual(len(found), 4)

    def test_each_by_itself(self):
        rows = (("a", ((1, 1),), (3, 3)), ("b", ((2, 2),), (6, 7)), ("c", ((1, 1),), (4, 4)))
        self.assertEqual(spare_rows(System(("x",), rows)), (0, 1, 2))
        self.assertEqual(spare_rows(System(("x",), rows[:2])), (0, 1))
        self.assertEqual(spare_rows(System(("x",), (rows[0], rows[2]))), (1,))
        self.assertEqual(spare_rows(System(("x",), rows[:1])), ())

    def test_without_a_sure_answer(self):
        rows = (("a", ((0, 0),), (-1, -1)), ("b", ((1, 1),), (3, 3)), ("c", ((0, 0),), (-1, 0)))
        self.assertEqual(spare_rows(System(("x",), rows)), (0, 1, 2))
        self.assertEqual(spare_rows(System(("x",), rows[:2])), (1,))
        self.assertEqual(spare_rows(System(("x",), rows[:1])), ())
        self.assertEqual(spare_rows(TIGHT), (2, 3))

    def test_rows_that_all_answers_keep(self):
        self.assertEqual(spare_rows(System(("x",), (("a", ((0, 0),), (0, 0)),))), (0,))
        self.assertEqual(spare_rows(System(("x",), (("a", ((0, 1),), (0, 0)),))), ())
        self.assertEqual(spare_rows(System(("x",))), ())

    def test_where_answers_have_no_end(self):
        rows = (("a", ((1, 1), (0, 0)), (0, 0)), ("b", ((1, 1), (0, 1)), (5, 5)), ("c", ((0, 0), (1, 1)), (5, 5)))
        system = System(("x", "y"), rows)
        self.assertEqual(spare_rows(system), (1,))
        self.assertEqual(spare_rows(system.without(2)), ())
        self.assertEqual(spare_rows(system.changed(("b", "x", (-1, 1)))), (2,))
        self.assertEqual(spare_rows(system.changed(("b", "y", (1, 2)))), ())

    def test_examples_of_the_document(self):
        self.assertEqual([spare_rows(SHOP), spare_rows(SHOP.more(("easy", ((1, 1), (0, 0)), (5, 9))))], [(), (4,)])
