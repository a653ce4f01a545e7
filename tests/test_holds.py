"""[14] Demands on a system: the five forms, whether they hold, and the error for what is no demand."""

import unittest

from commonanswer.errors import InvalidDemand, NotASystem
from commonanswer.mends import holds
from commonanswer.systems import System
from tests.reckoning import (
    UNKNOWNS, Dice, answer_at, fraction, is_piece_within, is_sure_at, least_cost, over_one_bottom, pieces, systems,
)
from tests.samples import FOUR, LONG, SHOP, SHOP_TEXT, THREE, TIGHT, odd_values

NONE = System(("x", "y"), (("a", ((-1, 1), (0, 0)), (-1, -1)),))
NEVER = System(("x", "y"), (("a", ((0, 0), (0, 0)), (-2, -1)),))
MOST = 10 ** 6


def thrown_costs(dice, many):
    """Costs of small and of great integers."""
    size = dice.pick((1, 1, 9, 1000))
    return tuple([dice.throw(-size, size) for _ in range(many)])


def expected_serves(system, costs, most):
    """Whether a sure answer costs at most so much."""
    found = pieces(system.rows, len(system.unknowns), True)
    if not found:
        return False
    least = least_cost(found, costs)
    return least is None or least[0] <= most * least[1]


class Holds(unittest.TestCase):
    def seen_both(self, told):
        """Both answers were right often enough for this to say something."""
        self.assertGreater(min(told.count(True), told.count(False)), 10)

    def test_all_and_some(self):
        alls, somes = [], []
        for system in systems(41):
            many = len(system.unknowns)
            alls.append(bool(pieces(system.rows, many, True)))
            somes.append(bool(pieces(system.rows, many, False)))
            self.assertIs(holds(system, ("all",)), alls[-1])
            self.assertIs(holds(system, ("some",)), somes[-1])
        self.seen_both(alls)
        self.seen_both(somes)
        self.assertIn((False, True), list(zip(alls, somes)))

    def test_serves(self):
        told = []
        for seed, system in enumerate(systems(42)):
            dice = Dice(seed)
            for _ in range(3):
                costs = thrown_costs(dice, len(system.unknowns))
                for most in (dice.throw(-3, 3), dice.throw(-2000, 2000), MOST, -MOST):
                    told.append(expected_serves(system, costs, most))
                    self.assertIs(holds(system, ("serves", costs, most)), told[-1])
        self.seen_both(told)

    def test_serves_just(self):
        just = 0
        for seed, system in enumerate(systems(43)):
            costs = thrown_costs(Dice(seed), len(system.unknowns))
            found = pieces(system.rows, len(system.unknowns), True)
            least = least_cost(found, costs) if found else None
            if least is not None and abs(least[0]) < MOST:
                for most in (least[0] // least[1] + step for step in (-1, 0, 1)):
                    self.assertIs(holds(system, ("serves", costs, most)), least[0] <= most * least[1])
                    just += least == (most, 1)
        self.assertGreater(just, 20)

    def test_serves_at_its_ends(self):
        least = System(("x",), (("a", ((-1, -1),), (-1000, -1000)),))
        self.assertEqual([holds(least, ("serves", (1000,), most)) for most in (MOST - 1, MOST)], [False, True])
        self.assertFalse(holds(System(("x",), (("a", ((-1, -1),), (-1001, -1001)),)), ("serves", (1000,), MOST)))
        just = System(("x",), (("a", ((1, 1),), (1000, 1000)), ("b", ((-1, -1),), (-1000, -1000))))
        self.assertEqual([holds(just, ("serves", (-1000,), most)) for most in (-MOST, 1 - MOST)], [True, True])
        below = System(("x",), (("a", ((1, 1),), (999, 999)),))
        self.assertEqual([holds(below, ("serves", (-1000,), most)) for most in (-MOST, -999000)], [False, True])

    def test_sure(self):
        told = []
        for seed, system in enumerate(systems(44)):
            dice, many = Dice(seed), len(system.unknowns)
            corners = [answer_at(point) for points, _ in pieces(system.rows, many, True) for point in points][:4]
            thrown = [tuple([fraction(dice.throw(-9, 9), dice.throw(1, 9)) for _ in range(many)]) for _ in range(4)]
            moved = [(fraction(own[0][0] * 10 ** 18 + own[0][1], own[0][1] * 10 ** 18), *own[1:]) for own in corners]
            for answer in corners + moved + thrown + [((0, 1),) * many]:
                told.append(is_sure_at(system.rows, over_one_bottom(answer)))
                self.assertIs(holds(system, ("sure", answer)), told[-1])
        self.seen_both(told)

    def test_like(self):
        told = []
        made = systems(45, most_rows=4)
        for seed, system in enumerate(made):
            many = len(system.unknowns)
            dice = Dice(seed)
            found = pieces(system.rows, many, True)
            others = [own for own in made if own.unknowns == system.unknowns]
            others = [dice.pick(others), dice.pick(others), System(system.unknowns, system.rows[::-1])]
            others = others + [system.without(at) for at in range(len(system))]
            for other in others:
                theirs = pieces(other.rows, many, True)
                told.append(is_piece_within(found, other.rows) and is_piece_within(theirs, system.rows))
                self.assertIs(holds(system, ("like", str(other))), told[-1])
                self.assertIs(holds(other, ("like", str(system))), told[-1])
        self.seen_both(told)

    def test_without_a_sure_answer(self):
        self.assertEqual([holds(NONE, ("all",)), holds(NONE, ("some",))], [False, True])
        self.assertEqual([holds(NEVER, ("all",)), holds(NEVER, ("some",))], [False, False])
        for system in (NONE, NEVER, TIGHT):
            for costs in ((0, 0), (1, 1), (-1000, 1000)):
                self.assertFalse(holds(system, ("serves", costs, MOST)))
            self.assertFalse(holds(system, ("sure", FOUR)))
            self.assertFalse(holds(system, ("like", SHOP_TEXT)))
            self.assertFalse(holds(SHOP, ("like", str(system))))
            for other in (NONE, NEVER, TIGHT):
                self.assertTrue(holds(system, ("like", str(other))))

    def test_no_least_cost(self):
        system = System(("x",), (("a", ((1, 1),), (0, 0)),))
        self.assertTrue(holds(system, ("serves", (1,), -MOST)))
        self.assertFalse(holds(system, ("serves", (-1,), -1)))
        self.assertTrue(holds(system, ("serves", (-1,), 0)))
        self.assertTrue(holds(System(("x", "y")), ("serves", (3, -4), -MOST)))
        self.assertFalse(holds(System(("x", "y")), ("serves", (0, 0), -1)))

    def test_without_rows(self):
        for many in (1, 2, 3):
            free = System(UNKNOWNS[:many])
            one = System(UNKNOWNS[:many], (("a", ((0, 0),) * many, (0, 1)),))
            for demand in (("all",), ("some",), ("sure", ((10 ** 39, 1),) * many), ("like", str(free)), ("like", str(one)),
                           ("serves", (1,) * many, -MOST)):
                self.assertEqual([holds(free, demand), holds(one, demand)], [True, True])

    def test_example(self):
        self.assertEqual(
            [holds(SHOP, ("serves", (2, 1), 4)), holds(SHOP, ("serves", (2, 1), 3)), holds(TIGHT, ("all",)),
             holds(TIGHT, ("some",))],
            [True, False, False, True],
        )


class Errors(unittest.TestCase):
    def wrong(self, system, demand):
        """This is no demand on this system."""
        with self.assertRaises(InvalidDemand) as caught:
            holds(system, demand)
        self.assertIs(caught.exception.given, demand)

    def test_more_and_fewer_elements(self):
        for demand in (("all",), ("some",), ("serves", (2, 1), 4), ("sure", FOUR), ("like", SHOP_TEXT)):
            self.assertIn(holds(SHOP, demand), (True, False))
            for value in (demand + (None,), demand + demand, demand[:-1], demand[1:], (demand,), list(demand), demand[0],
                          (demand[0].upper(), *demand[1:]), (demand[0] + " ", *demand[1:]), dict([(demand, demand)])):
                self.wrong(SHOP, value)

    def test_other_unknowns(self):
        one, three = System(("x",)), System(("x", "y", "z"))
        for system, other in ((one, SHOP), (three, SHOP), (SHOP, one), (SHOP, three)):
            many = len(other.unknowns)
            for demand in (("serves", (1,) * many, 4), ("sure", ((1, 1),) * many), ("like", str(other))):
                self.assertIn(holds(other, demand), (True, False))
                self.wrong(system, demand)
        for unknowns in (("y", "x"), ("x", "z"), ("a", "b"), ("xx", "y")):
            self.wrong(SHOP, ("like", str(System(unknowns))))
            self.wrong(SHOP, ("like", str(System(unknowns, SHOP.rows))))
            self.assertFalse(holds(System(unknowns), ("like", str(System(unknowns, SHOP.rows)))))

    def test_numbers_beyond_their_ends(self):
        for costs in ((1000, -1000), (-1000, 1000), (0, 0)):
            self.assertIn(holds(SHOP, ("serves", costs, 0)), (True, False))
        for costs in ((1001, 0), (0, 1001), (-1001, 0), (0, -1001), (True, 0), (0, False), [0, 0]):
            self.wrong(SHOP, ("serves", costs, 0))
        for most in (MOST, -MOST, 0):
            self.assertIn(holds(SHOP, ("serves", (1, 1), most)), (True, False))
        for most in (MOST + 1, -MOST - 1, 10 ** 39, -(10 ** 39), True, False, None, "0", (0, 1)):
            self.wrong(SHOP, ("serves", (1, 1), most))

    def test_answers_that_are_none(self):
        self.assertFalse(holds(SHOP, ("sure", LONG)))
        for answer in (((2, 2), (0, 1)), ((0, 2), (0, 1)), ((1, 0), (0, 1)), ((1, -1), (0, 1)), [*FOUR], (0, 4),
                       ((True, 1), (0, 1)), ((0, 1), (1, True)), FOUR[:1], FOUR + THREE):
            self.wrong(SHOP, ("sure", answer))

    def test_texts_that_are_none(self):
        for text in (SHOP_TEXT + "\n", SHOP_TEXT + " ", " " + SHOP_TEXT, SHOP_TEXT.replace("5", "05"), SHOP, "", None,
                     SHOP_TEXT.replace("more", "need"), SHOP_TEXT.replace("row ", "row  "), [SHOP_TEXT], "unknowns"):
            self.wrong(SHOP, ("like", text))

    def test_no_system_counts_first(self):
        for value in odd_values():
            if not isinstance(value, System):
                with self.assertRaises(NotASystem) as caught:
                    holds(value, value)
                self.assertIs(caught.exception.given, value)
