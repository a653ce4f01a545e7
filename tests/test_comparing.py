"""[8] Two systems: whether the sure answers of the one are those of the other one."""

import unittest

from commonanswer.common import common
from commonanswer.comparing import are_alike, is_within, straying
from commonanswer.systems import System
from tests.reckoning import (
    Dice, boxes, is_answer, is_piece_within, is_sure_at, narrow, over_one_bottom, pieces, systems,
)
from tests.samples import SHOP, TIGHT

EASY = ("easy", ((1, 1), (0, 0)), (5, 9))
SYSTEMS = systems(61, 1, 5)[::2] + boxes(62, 20)


def moved(pair, low, high):
    """A stretch with its ends moved, None if that is none."""
    ends = (max(-10000, pair[0] + low), min(10000, pair[1] + high))
    return ends if ends[0] <= ends[1] else None


def pairs_of(system, seed):
    """Pairs of systems that differ a little: rows less, more, narrower, wider, in another order."""
    dice = Dice(seed)
    found = [System(system.unknowns, system.rows[::-1]), System(system.unknowns), system]
    for index in range(len(system)):
        found.append(system.without(index))
        name, stretches, bound = system.rows[index]
        for low, high in ((-1, 0), (0, 1), (1, 0), (0, -1), (-3, 3)):
            at = dice.throw(0, len(stretches))
            place = (*system.unknowns, "bound")[at]
            stretch = moved((*stretches, bound)[at], low, high)
            if stretch is not None:
                found.append(system.changed((name, place, stretch)))
    if len(system) < 6:
        found.append(system.more(("q", tuple([narrow(dice, 3) for _ in system.unknowns]), narrow(dice, 5))))
        found.append(system.more(("q", tuple([(0, 0) for _ in system.unknowns]), (0, 0))))
    near = [(system, dice.pick(found)) for _ in range(4)] + [(system, dice.pick(found[:3]))]
    return near + [(dice.pick(found), dice.pick(found)) for _ in range(3)]


class Comparing(unittest.TestCase):
    def told_rightly(self, one, other):
        """What is told of two systems is what the corners and directions of the first one's answers tell."""
        right = is_piece_within(pieces(one.rows, len(one.unknowns), True), other.rows)
        self.assertIs(is_within(one, other), right, (str(one), str(other)))
        answer = straying(one, other)
        self.assertIs(answer is None, right)
        if not right:
            self.assertTrue(is_answer(answer, len(one.unknowns)), answer)
            point = over_one_bottom(answer)
            self.assertTrue(is_sure_at(one.rows, point))
            self.assertFalse(is_sure_at(other.rows, point))
        return right

    def test_against_own_reckoning(self):
        found = {}
        for seed, system in enumerate(SYSTEMS):
            for one, other in pairs_of(system, seed):
                there = self.told_rightly(one, other)
                back = self.told_rightly(other, one)
                self.assertIs(are_alike(one, other), there and back)
                self.assertIs(are_alike(other, one), there and back)
                kind = (there, back, common(one) is None)
                found[kind] = found.get(kind, 0) + 1
        for kind in ((True, True, False), (True, False, False), (False, True, False), (False, False, False)):
            self.assertGreater(found[kind], 20)
        self.assertGreater(found[True, True, True], 20)
        self.assertGreater(found[True, False, True], 20)

    def test_unlike_systems(self):
        found = {}
        for one in SYSTEMS[::3]:
            for other in SYSTEMS[::17]:
                if one.unknowns == other.unknowns:
                    kind = self.told_rightly(one, other)
                    found[kind] = found.get(kind, 0) + 1
        self.assertGreater(min(found.values()), 50)

    def test_first_system_without_a_sure_answer(self):
        none = System(("x", "y"), (("a", ((0, 0), (0, 0)), (-1, 3)),))
        for other in (SHOP, TIGHT, none, System(("x", "y"))):
            for one in (none, TIGHT):
                self.assertIs(is_within(one, other), True)
                self.assertIsNone(straying(one, other))
        self.assertIs(are_alike(none, TIGHT), True)
        self.assertIs(are_alike(none, SHOP), False)
        self.assertIs(is_within(SHOP, none), False)
        self.assertIs(are_alike(none, System(("x", "y"))), False)

    def test_without_rows(self):
        for unknowns in (("x",), ("x", "y"), ("x", "y", "z")):
            all_answers = System(unknowns)
            easy = all_answers.more(("a", tuple([(0, 0) for _ in unknowns]), (0, 9)))
            row = all_answers.more(("a", tuple([(0, 0) for _ in unknowns[1:]]) + ((0, 1),), (9999, 10000)))
            self.assertIs(are_alike(all_answers, all_answers), True)
            self.assertIs(are_alike(all_answers, easy), True)
            self.assertIs(are_alike(all_answers, row), False)
            self.assertIs(is_within(row, all_answers), True)
            self.told_rightly(all_answers, row)

    def test_only_just_beyond(self):
        def at_most(low, high):
            return System(("x",), (("a", ((1, 1),), (low, high)), ("b", ((-1, -1),), (10000, 10000))))

        self.assertIs(is_within(at_most(7, 9), at_most(7, 8)), True)
        self.assertIs(is_within(at_most(7, 9), at_most(8, 8)), True)
        self.assertIs(is_within(at_most(7, 9), at_most(6, 9)), False)
        self.assertIs(are_alike(at_most(7, 7), at_most(7, 100)), True)
        # 1 / 9999 is sure in the one, and beyond what is sure in the other one by 1 / 99990000.
        one = System(("x",), (("a", ((9999, 9999),), (1, 1)),))
        other = System(("x",), (("a", ((10000, 10000),), (1, 1)),))
        self.assertEqual([is_within(one, other), is_within(other, one)], [False, True])
        self.told_rightly(one, other)
        self.told_rightly(other, one)

    def test_beyond_in_one_corner_of_a_row_alone(self):
        box = (
            ("a", ((1, 1), (0, 0)), (1, 1)), ("b", ((-1, -1), (0, 0)), (1, 1)),
            ("c", ((0, 0), (1, 1)), (1, 1)), ("d", ((0, 0), (-1, -1)), (1, 1)),
        )
        for one in (1, -1):
            for two in (1, -1):
                row = ("e", (tuple(sorted((0, one))), tuple(sorted((0, 2 * two)))), (2, 2))
                answer = straying(System(("x", "y"), box), System(("x", "y"), (row,)))
                self.assertEqual([answer[0][0] * one > 0, answer[1][0] * two > 0], [True, True])
                self.assertIs(is_within(System(("x", "y"), box), System(("x", "y"), (row[:2] + ((3, 3),),))), True)

    def test_examples_of_the_document(self):
        self.assertEqual(
            [is_within(TIGHT, SHOP), is_within(SHOP, TIGHT), straying(TIGHT, SHOP), are_alike(SHOP, SHOP.more(EASY))],
            [True, False, None, True],
        )
        self.told_rightly(SHOP, TIGHT)
