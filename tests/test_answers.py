"""[6] to [8] Answers: rooms, sure and possible answers, members with them and against them."""

import unittest

from commonanswer.answers import is_possible, is_sure, member_against, member_with, rooms
from commonanswer.systems import System
from tests.reckoning import (
    Dice, answer_at, fraction, is_fraction, is_member, is_possible_at, is_sure_at, keeps, over_one_bottom, pieces,
    rooms_at, systems,
)
from tests.samples import FOUR, SHOP, THREE

MOST = 10 ** 40 - 1
SYSTEMS = systems(3)


def thrown_answers(many, seed):
    """Answers of small and of long fractions, also with values of 0."""
    dice = Dice(seed)
    found = [((0, 1),) * many, ((1, 1),) * many, ((-1, 1),) * many]
    for size in (3, 50, 10 ** 9):
        for _ in range(2):
            found.append(tuple([fraction(dice.throw(-size, size), dice.throw(1, size)) for _ in range(many)]))
    for sign in (1, -1):
        tops = [10 ** 39 + dice.throw(0, 10 ** 9) * dice.throw(0, 10 ** 9) for _ in range(many)]
        found.append(tuple([fraction(sign * top, MOST - at) for at, top in enumerate(tops)]))
        found.append(tuple([fraction(sign * (MOST - at), 10 ** 39 + top % 97) for at, top in enumerate(tops)]))
    return found


def just_answers(rows, many):
    """Answers that keep some rows just, and others beside them."""
    found = []
    for sure in (True, False):
        corners = [point for points, _ in pieces(rows, many, sure) for point in points]
        for point in corners[:4]:
            found.append(answer_at(point))
            for step in (1, -1):
                moved = [part * 10 ** 20 for part in point]
                moved[0] += step
                found.append(answer_at(moved))
    return found


class Sums(unittest.TestCase):
    def told_rightly(self, system, answer):
        """What is told of an answer is what the sums over all ends of all stretches tell."""
        point = over_one_bottom(answer)
        told = rooms(system, answer)
        self.assertIs(told.__class__, tuple)
        self.assertEqual(len(told), len(system))
        for row, pair in zip(system.rows, told):
            self.assertEqual([pair.__class__, len(pair)], [tuple, 2])
            for room, own in zip(pair, rooms_at(row, point)):
                self.assertTrue(is_fraction(room), room)
                self.assertEqual(room[0] * point[-1], own * room[1])
        sure, can = is_sure_at(system.rows, point), is_possible_at(system.rows, point)
        self.assertIs(is_sure(system, answer), sure)
        self.assertIs(is_possible(system, answer), can)
        return sure, can

    def members_are_right(self, system, answer, sure, can):
        """The members with and against an answer are there exactly if they should be, and are right."""
        member, against = member_with(system, answer), member_against(system, answer)
        self.assertEqual([member is None, against is None], [not can, sure])
        if member is not None:
            self.assertTrue(is_member(system.rows, member))
            self.assertTrue(keeps(member, answer))
        if against is not None:
            self.assertTrue(is_member(system.rows, against))
            self.assertFalse(keeps(against, answer))

    def test_against_sums_over_all_ends(self):
        found = {}
        for seed, system in enumerate(SYSTEMS):
            many = len(system.unknowns)
            for answer in thrown_answers(many, seed) + just_answers(system.rows, many):
                told = self.told_rightly(system, answer)
                self.members_are_right(system, answer, *told)
                found[told] = found.get(told, 0) + 1
        for told in ((True, True), (False, True), (False, False)):
            self.assertGreater(found[told], 100)
        self.assertNotIn((True, False), found)

    def test_answers_that_keep_rows_just(self):
        many = 0
        for system in SYSTEMS:
            for answer in just_answers(system.rows, len(system.unknowns)):
                for least, greatest in rooms(system, answer):
                    many += least == (0, 1) or greatest == (0, 1)
        self.assertGreater(many, 500)


class ByHand(unittest.TestCase):
    def test_one_row_around_0(self):
        system = System(("x",), (("a", ((-2, 3),), (5, 7)),))
        told = {
            (0, 1): ((5, 1), (7, 1)), (1, 1): ((2, 1), (9, 1)), (-1, 1): ((3, 1), (10, 1)), (2, 1): ((-1, 1), (11, 1)),
            (5, 3): ((0, 1), (31, 3)), (-5, 2): ((0, 1), (29, 2)), (-3, 1): ((-1, 1), (16, 1)),
        }
        for value, room in told.items():
            self.assertEqual(rooms(system, (value,)), (room,))
            self.assertIs(is_sure(system, (value,)), room[0][0] >= 0)
            self.assertIs(is_possible(system, (value,)), True)

    def test_just_sure_and_just_possible(self):
        system = System(("x", "y"), (("a", ((1, 2), (1, 1)), (4, 6)),))
        self.assertIs(is_sure(system, ((1, 1), (2, 1))), True)
        self.assertIs(is_sure(system, ((1, 1), (2 * 10 ** 39 + 1, 10 ** 39))), False)
        self.assertIs(is_possible(system, ((1, 1), (5, 1))), True)
        self.assertIs(is_possible(system, ((1, 1), (5 * 10 ** 39 + 1, 10 ** 39))), False)

    def test_each_row_counts(self):
        rows = tuple([(name, ((1, 1),), (5, 5)) for name in "abcdef"])
        for at in range(6):
            for bound, can in (((3, 5), True), ((3, 3), False)):
                system = System(("x",), rows[:at] + (("g", ((1, 1),), bound),) + rows[at + 1:])
                self.assertEqual([is_sure(system, ((3, 1),)), is_possible(system, ((3, 1),))], [True, True])
                self.assertEqual([is_sure(system, ((4, 1),)), is_possible(system, ((4, 1),))], [False, can])

    def test_possible_only_with_unlike_numbers_in_unlike_rows(self):
        system = System(("x",), (("a", ((-1, 1),), (-1, -1)), ("b", ((-1, 1),), (0, 0))))
        member = member_with(system, ((1, 1),))
        self.assertEqual(member[0], (((-1, 1),), (-1, 1)))
        self.assertTrue(keeps(member, ((1, 1),)))
        self.assertIsNone(member_with(system, ((1, 2),)))

    def test_without_rows(self):
        for unknowns in (("x",), ("x", "y"), ("x", "y", "z")):
            system = System(unknowns)
            for answer in thrown_answers(len(unknowns), 1):
                self.assertIs(is_sure(system, answer), True)
                self.assertIs(is_possible(system, answer), True)
                self.assertEqual(rooms(system, answer), ())
                self.assertEqual(member_with(system, answer), ())
                self.assertIsNone(member_against(system, answer))

    def test_answers_beyond_forty_digits(self):
        system = System(("x",), (("a", ((1, 1),), (1, 1)),))
        self.assertIs(is_sure(system, ((10 ** 900, 10 ** 900 + 1),)), True)
        self.assertIs(is_possible(system, ((10 ** 900 + 1, 10 ** 900),)), False)
        self.assertEqual(rooms(system, ((10 ** 900 + 1, 10 ** 900),)), (((-1, 10 ** 900), (-1, 10 ** 900)),))

    def test_example_of_the_document(self):
        self.assertEqual(
            [is_sure(SHOP, FOUR), is_sure(SHOP, THREE), is_possible(SHOP, THREE), rooms(SHOP, THREE)[:2]],
            [True, False, True, (((-5, 2), (0, 1)), ((7, 2), (7, 2)))],
        )
        self.assertEqual(member_with(SHOP, THREE)[0], (((-2, 1), (-1, 1)), (-3, 1)))
        self.assertEqual(rooms(SHOP, THREE)[2:], (((3, 2), (3, 2)), ((0, 1), (0, 1))))
        self.assertIsNone(member_against(SHOP, FOUR))
        self.assertFalse(keeps(member_against(SHOP, THREE), THREE))
