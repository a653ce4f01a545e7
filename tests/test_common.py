"""[2], [8], [9] Sure answers: any, what bars them, and how far each unknown can reach."""

import unittest

from commonanswer.answers import is_sure
from commonanswer.common import barring, common, sure_range
from commonanswer.errors import NoSure
from commonanswer.systems import System
from tests.reckoning import bars, boxes, is_answer, is_sure_at, over_one_bottom, pieces, range_in, systems
from tests.samples import SHOP, TIGHT

SYSTEMS = systems(11, 2) + boxes(12, 30)


class Common(unittest.TestCase):
    def no_sure(self, system):
        """There is no sure answer, and what bars one is right."""
        self.assertIsNone(common(system))
        self.assertTrue(bars(system.rows, len(system.unknowns), barring(system)), str(system))
        for name in system.unknowns:
            with self.assertRaises(NoSure):
                sure_range(system, name)

    def some_sure(self, system):
        """There is a sure answer, a right one, and nothing bars it."""
        answer = common(system)
        self.assertTrue(is_answer(answer, len(system.unknowns)), answer)
        self.assertTrue(is_sure_at(system.rows, over_one_bottom(answer)))
        self.assertIs(is_sure(system, answer), True)
        self.assertIsNone(barring(system))

    def test_sure_answer_or_member_without_one(self):
        found = [0, 0]
        for system in SYSTEMS:
            sure = bool(pieces(system.rows, len(system.unknowns), True))
            found[sure] += 1
            (self.some_sure if sure else self.no_sure)(system)
        self.assertGreater(min(found), 50)

    def test_ranges(self):
        found = {}
        for system in SYSTEMS:
            many = len(system.unknowns)
            own = pieces(system.rows, many, True)
            for at, name in enumerate(system.unknowns if own else ()):
                told = sure_range(system, name)
                self.assertEqual(told, range_in(own, at, many), str(system))
                self.assertEqual([told.__class__, len(told)], [tuple, 2])
                kind = tuple([end is None for end in told])
                found[kind] = found.get(kind, 0) + 1
        self.assertGreater(min(found.values()), 10)
        self.assertEqual(len(found), 4)

    def test_without_rows(self):
        for unknowns in (("x",), ("x", "y"), ("x", "y", "z")):
            system = System(unknowns)
            self.some_sure(system)
            for name in unknowns:
                self.assertEqual(sure_range(system, name), (None, None))

    def test_rows_that_all_answers_keep(self):
        system = System(("x", "y"), (("a", ((0, 0), (0, 0)), (0, 3)), ("b", ((0, 0), (0, 0)), (5, 5))))
        self.some_sure(system)
        self.assertEqual([sure_range(system, "x"), sure_range(system, "y")], [(None, None), (None, None)])

    def test_row_that_no_answer_keeps(self):
        for stretch in ((0, 0), (-1, 1), (-10000, 10000)):
            for low in (-1, -10000):
                self.no_sure(System(("x",), (("a", (stretch,), (low, 10000)),)))
        self.some_sure(System(("x",), (("a", ((0, 0),), (0, 10000)),)))

    def test_one_answer_alone(self):
        rows = (
            ("a", ((3, 3), (0, 0)), (1, 9)), ("b", ((-3, -3), (0, 0)), (-1, -1)),
            ("c", ((0, 0), (-1, -1)), (2, 2)), ("d", ((0, 0), (7, 7)), (-14, -14)),
        )
        system = System(("x", "y"), rows)
        self.assertEqual(common(system), ((1, 3), (-2, 1)))
        self.assertEqual(sure_range(system, "x"), ((1, 3), (1, 3)))
        self.assertEqual(sure_range(system, "y"), ((-2, 1), (-2, 1)))
        self.no_sure(system.changed(("a", "bound", (0, 9))))
        self.no_sure(system.changed(("d", "y", (6, 7))))

    def test_0_alone(self):
        rows = tuple([(name, tuple([(-1, 1) if at == place else (0, 0) for place in range(3)]), (0, 5))
                      for at, name in enumerate(("a", "b", "c"))])
        system = System(("x", "y", "z"), rows)
        self.assertEqual(common(system), ((0, 1), (0, 1), (0, 1)))
        for name in ("x", "y", "z"):
            self.assertEqual(sure_range(system, name), ((0, 1), (0, 1)))

    def test_numbers_at_their_limits(self):
        most = 10000
        rows = (("a", ((-most, most), (-most, -most)), (-most, most)), ("b", ((-most, most), (most, most)), (most, most)))
        system = System(("x", "y"), rows)
        self.assertEqual(common(system), ((0, 1), (1, 1)))
        self.no_sure(system.changed(("b", "bound", (9999, 9999))))
        rows = (("a", ((9999, 10000),), (9999, 9999)), ("b", ((-9999, -9998),), (-9998, 9998)))
        self.no_sure(System(("x",), rows))
        self.assertEqual(
            sure_range(System(("x",), (("a", ((9999, 10000),), (1, 1)), ("b", ((-9999, -9998),), (1, 1)))), "x"),
            ((-1, 9999), (1, 10000)),
        )

    def test_members_can_all_have_answers_only_with_a_sure_one(self):
        # Each number by itself could be met: x at most -1 or at least 1. Together nothing meets all of them.
        self.no_sure(System(("x",), (("a", ((-1, 1),), (-1, -1)),)))
        self.no_sure(System(("x",), (("a", ((-2, -1),), (-4, -4)), ("b", ((1, 2),), (7, 7)))))
        self.some_sure(System(("x",), (("a", ((-2, -1),), (-4, -4)), ("b", ((1, 2),), (8, 8)))))

    def test_examples_of_the_document(self):
        self.assertEqual(
            [is_sure(SHOP, common(SHOP)), barring(SHOP), common(TIGHT), sure_range(SHOP, "x"), sure_range(SHOP, "y")],
            [True, None, None, ((0, 1), (5, 1)), ((0, 1), (5, 1))],
        )
        self.no_sure(TIGHT)
        self.some_sure(SHOP)
