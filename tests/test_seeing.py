"""[13] What was seen: whether members fit it, such members, and the first row that clashes with it."""

import unittest

from commonanswer.answers import is_possible, member_with
from commonanswer.errors import InvalidSeen, NotASystem
from commonanswer.seeing import clash, fits, fitting
from commonanswer.systems import System
from tests.reckoning import (
    UNKNOWNS, Dice, answer_at, fraction, is_member, keeps, over_one_bottom, pieces, spanning, systems,
)
from tests.samples import FOUR, LONG, SHOP, THREE, odd_values

MOST = 10 ** 40 - 1
HUGE = (((0, 1), (9, 1)), ((0, 1), (2, 1)))


def has_numbers(row, seen):
    """Whether some numbers of a row let all that was seen keep it, by the corners of what such numbers can be."""
    many = len(row[1])
    lines = [[0] * many + [-1]]
    for at, (low, high) in enumerate(row[1]):
        for sign, end in ((-1, -low), (1, high)):
            lines.append([sign if at == place else 0 for place in range(many)] + [-end])
    for answer in seen:
        *tops, bottom = over_one_bottom(answer)
        lines.append(tops + [-row[2][1] * bottom])
    return any(point[-1] for point in spanning(lines, many))


def thrown_answer(dice, many, size):
    """An answer with values up to this size."""
    return tuple([fraction(dice.throw(-size, size), dice.throw(1, size)) for _ in range(many)])


def long_answer(dice, many):
    """An answer of fractions with forty digits."""
    tops = [dice.throw(-(10 ** 9), 10 ** 9) * 10 ** 30 + dice.throw(0, 10 ** 9) for _ in range(many)]
    return tuple([fraction(top, MOST - dice.throw(0, 10 ** 9)) for top in tops])


def near(answer, step):
    """An answer that is moved by very little in its first value."""
    top, bottom = answer[0]
    return (fraction(top * 10 ** 15 + step * bottom, bottom * 10 ** 15), *answer[1:])


def just_answers(system):
    """Answers that some members keep just, and others very near to them."""
    corners = [answer_at(point) for points, _ in pieces(system.rows, len(system.unknowns), False) for point in points]
    return [near(corner, step) for corner in corners[:6] for step in (0, 1, -1)]


def thrown_seen(dice, system):
    """Some tuples of answers that can have been seen, or not."""
    many = len(system.unknowns)
    just = just_answers(system)
    found = [(), (thrown_answer(dice, many, 3),), (long_answer(dice, many),)]
    found.append(tuple([thrown_answer(dice, many, 5) for _ in range(dice.throw(2, 4))]))
    found.append(tuple([thrown_answer(dice, many, 2) for _ in range(8)]))
    if just:
        found.append(tuple([dice.pick(just) for _ in range(dice.throw(2, 5))]))
        found.append(tuple([dice.pick(just) for _ in range(7)] + [long_answer(dice, many)]))
        found.append((dice.pick(just),))
    return found


class Seen(unittest.TestCase):
    def told_rightly(self, system, seen):
        """What is told of answers that were seen is what the test reckons by itself; the row that clashes."""
        lost = [index for index, row in enumerate(system.rows) if not has_numbers(row, seen)]
        first = lost[0] if lost else None
        self.assertEqual(clash(system, seen), first)
        self.assertIs(fits(system, seen), not lost)
        member = fitting(system, seen)
        self.assertEqual(member is None, bool(lost))
        if member is not None:
            self.assertTrue(is_member(system.rows, member), member)
            self.assertTrue(all(keeps(member, answer) for answer in seen))
        return first, len(lost)

    def test_against_corners(self):
        firsts, many_lost = {}, 0
        for seed, system in enumerate(systems(31)):
            dice = Dice(seed)
            for seen in thrown_seen(dice, system):
                first, lost = self.told_rightly(system, seen)
                firsts[first] = firsts.get(first, 0) + 1
                many_lost += lost > 1
        self.assertTrue(all(firsts.get(first, 0) >= 3 for first in (None, 0, 1, 2, 3)), firsts)
        self.assertGreater(firsts[None], 200)
        self.assertGreater(many_lost, 50)

    def test_answers_of_a_member(self):
        dice = Dice(5)
        for many in (1, 2, 3):
            for size in (1, 2, 6):
                rows, member = [], []
                for at in range(size):
                    numbers = [dice.throw(-30, 30) for _ in range(many)]
                    bound = dice.throw(0, 40)
                    rows.append((f"r{at}", tuple([(own - dice.throw(0, 5), own + dice.throw(0, 5)) for own in numbers]),
                                 (bound - dice.throw(0, 9), bound)))
                    member.append((tuple([(own, 1) for own in numbers]), (bound, 1)))
                system = System(UNKNOWNS[:many], tuple(rows))
                thrown = [thrown_answer(dice, many, size) for size in (1, 2, 3, 9) for _ in range(60)]
                seen = tuple([answer for answer in thrown if keeps(member, answer)][:8])
                self.assertTrue(seen)
                self.assertEqual(self.told_rightly(system, seen), (None, 0))

    def test_nothing_seen(self):
        for system in systems(32):
            self.assertEqual([fits(system, ()), clash(system, ())], [True, None])
            self.assertTrue(is_member(system.rows, fitting(system, ())))

    def test_one_answer_fits_where_it_is_possible(self):
        for seed, system in enumerate(systems(33)):
            many = len(system.unknowns)
            for answer in [thrown_answer(Dice(seed), many, 4), long_answer(Dice(seed), many)] + just_answers(system)[:6]:
                self.assertIs(fits(system, (answer,)), is_possible(system, answer))
                self.assertEqual(fitting(system, (answer,)) is None, member_with(system, answer) is None)
                self.assertIs(fits(system, (answer,) * 8), is_possible(system, answer))

    def test_each_answer_fits_by_itself_but_not_both(self):
        system = System(("x",), (("a", ((-1, 1),), (-1, -1)),))
        one, other = ((1, 1),), ((-1, 1),)
        self.assertEqual([fits(system, (one,)), fits(system, (other,))], [True, True])
        self.assertEqual([fits(system, (one, other)), fitting(system, (one, other))], [False, None])
        self.assertEqual(clash(system, (one, other)), 0)
        self.assertEqual(fitting(system, (one, one)), ((((-1, 1),), (-1, 1)),))

    def test_numbers_that_fit_just(self):
        system = System(("x", "y"), (("a", ((1, 2), (1, 2)), (-3, 0)),))
        for one, other, numbers in (
            ((2, 1), (-1, 1), ((1, 1), (2, 1))), ((1, 1), (-2, 1), ((2, 1), (1, 1))),
            ((20001, 10000), (-1, 1), None), ((19999, 10000), (-10000, 10001), None), ((1, 1), (-20001, 10000), None),
            ((2 * 10 ** 39 - 1, 10 ** 39), (-1, 1), "some"), ((2 * 10 ** 39 + 1, 10 ** 39), (-1, 1), None),
        ):
            other = fraction(*other)
            seen = ((one, other), ((-one[0], one[1]), (-other[0], other[1])))
            member = fitting(system, seen)
            self.told_rightly(system, seen)
            if numbers == "some":
                self.assertTrue(is_member(system.rows, member))
            else:
                self.assertEqual(member, None if numbers is None else ((numbers, (0, 1)),))

    def test_fractions_where_no_integers_fit(self):
        system = System(("x", "y"), (("a", ((0, 1), (0, 1)), (0, 0)), ("b", ((0, 0), (0, 0)), (0, 0))))
        seen = (((3, 1), (-2, 1)), ((-3, 1), (2, 1)), ((-1, 1), (-1, 1)), ((2, 1), (-1, 1)), ((0, 1), (0, 1)))
        self.assertEqual(self.told_rightly(system, seen), (None, 0))
        system = System(("x", "y"), (("a", ((0, 1), (0, 1)), (-2, -1)),))
        seen = (((-3, 1), (0, 1)), ((0, 1), (-5, 2)))
        member = fitting(system, seen)
        self.assertEqual(self.told_rightly(system, seen), (None, 0))
        self.assertGreater(member[0][0][0][1] + member[0][0][1][1], 2)

    def test_greatest_bound_counts(self):
        system = System(("x",), (("a", ((1, 1),), (-5, 7)),))
        self.assertEqual(fitting(system, (((7, 1),),)), ((((1, 1),), (7, 1)),))
        self.assertEqual([fits(system, (((71, 10),),)), clash(system, (((71, 10),),))], [False, 0])

    def test_single_numbers(self):
        system = System(("x", "y"), (("a", ((3, 3), (-2, -2)), (4, 4)), ("b", ((0, 0), (0, 0)), (0, 0))))
        just, beyond = ((2, 1), (1, 1)), ((2, 1), (999999, 1000000))
        self.assertEqual(fitting(system, (just,)), ((((3, 1), (-2, 1)), (4, 1)), (((0, 1), (0, 1)), (0, 1))))
        self.assertEqual([fits(system, (just, just)), fits(system, (just, beyond))], [True, False])
        none = System(("x", "y"), (("a", ((0, 0), (0, 0)), (-2, -1)), ("b", ((0, 0), (0, 0)), (-3, -1))))
        self.assertEqual([clash(none, ()), clash(none, (just,)), fitting(none, (just,))], [None, 0, None])

    def test_first_of_several_rows(self):
        rows = [(name, ((1, 1),), (bound, bound)) for name, bound in zip("abcdef", (9, 5, 7, 1, 8, 0))]
        system = System(("x",), tuple(rows))
        told = [clash(system, (((value, 1),),)) for value in (-1, 0, 1, 2, 5, 6, 7, 8, 9, 10)]
        self.assertEqual(told, [None, None, 5, 3, 3, 1, 1, 1, 1, 0])
        self.assertEqual(clash(system, (((1, 1),), ((6, 1),))), 1)
        self.assertEqual(clash(System(("x",), tuple(rows[::-1])), (((1, 1),), ((6, 1),))), 0)

    def test_without_rows(self):
        for many in (1, 2, 3):
            system = System(UNKNOWNS[:many])
            for seen in ((), (((0, 1),) * many,), (((10 ** 39, 7),) * many, ((-(10 ** 39), 7),) * many)):
                self.assertEqual([fits(system, seen), fitting(system, seen), clash(system, seen)], [True, (), None])

    def test_same_whatever_was_asked_between(self):
        asked = [(system, (FOUR, THREE)[:many]) for system in (SHOP, SHOP.without(0)) for many in (0, 1, 2)]
        first = [(fits(*own), fitting(*own), clash(*own)) for own in asked]
        self.assertEqual([(fits(*own), fitting(*own), clash(*own)) for own in asked[::-1]], first[::-1])

    def test_example(self):
        self.assertEqual(
            [fits(SHOP, (FOUR, THREE)), fits(SHOP, HUGE), clash(SHOP, HUGE), fitting(SHOP, (FOUR, THREE))[0]],
            [True, False, 0, (((-2, 1), (-1, 1)), (-3, 1))],
        )


class Errors(unittest.TestCase):
    def told(self, system, seen):
        """The index that all three calls tell for what was not seen."""
        found = []
        for call in (fits, fitting, clash):
            with self.assertRaises(InvalidSeen) as caught:
                call(system, seen)
            self.assertIs(caught.exception.__class__, InvalidSeen)
            found.append(caught.exception.index)
        self.assertEqual(found[1:], found[:1] * 2)
        return found[0]

    def test_no_tuple(self):
        for value in odd_values() + [[FOUR], [], {}, {FOUR: 1}, "", None, 0]:
            if not isinstance(value, tuple):
                self.assertIsNone(self.told(SHOP, value))

    def test_ninth_answer(self):
        self.assertEqual(self.told(SHOP, (FOUR,) * 9), 8)
        self.assertEqual(self.told(SHOP, (FOUR,) * 8 + (None,)), 8)
        self.assertEqual(self.told(SHOP, (LONG, THREE) * 500), 8)
        self.assertTrue(fits(SHOP, (FOUR,) * 8))
        self.assertEqual(self.told(System(("x",)), (((1, 1),),) * 9), 8)

    def test_first_wrong_answer(self):
        for at in range(8):
            for value in (None, [], (), FOUR[:1], FOUR + FOUR, ((2, 2), (0, 1)), ((True, 1), (0, 1)), [*FOUR], "x"):
                for behind in (0, 1, 5, 20):
                    seen = (FOUR, THREE, LONG) * 3
                    seen = seen[:at] + (value,) + (FOUR,) * behind
                    self.assertEqual(self.told(SHOP, seen), at)
                    self.assertEqual(self.told(SHOP, seen + (value, value)), at)

    def test_answers_of_another_system(self):
        self.assertEqual(self.told(System(("x",)), (((1, 1),), FOUR)), 1)
        self.assertEqual(self.told(System(("x", "y", "z")), (FOUR,)), 0)
        self.assertEqual(self.told(SHOP, (((1, 1),), FOUR)), 0)

    def test_no_system_counts_first(self):
        for call in (fits, fitting, clash):
            for seen in (None, [], (FOUR,) * 9, (None,)):
                with self.assertRaises(NotASystem) as caught:
                    call("shop", seen)
                self.assertEqual(caught.exception.given, "shop")
