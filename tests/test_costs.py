"""[2], [10] Costs: the worst and the best cost, cheapest answers, and members that ask the worst cost."""

import unittest

from commonanswer.common import common
from commonanswer.costs import best, cheapest, worst, worst_member
from commonanswer.errors import NoPossible, NoSure
from commonanswer.possible import possible
from commonanswer.systems import System
from tests.reckoning import (
    Dice, boxes, is_answer, is_fraction, is_sure_at, least_cost, over_one_bottom, pieces, shows, systems,
)
from tests.samples import SHOP

SYSTEMS = systems(31) + boxes(32, 40)


def thrown_costs(many, seed):
    """Costs of all kinds."""
    dice = Dice(seed)
    found = [(0,) * many, (1000,) * many, (-1000,) * many]
    found.append(tuple([dice.pick((-1, 0, 1)) for _ in range(many)]))
    found.append(tuple([dice.throw(-5, 5) for _ in range(many)]))
    found.append(tuple([dice.throw(-1000, 1000) for _ in range(many)]))
    return found


def cost_of(answer, costs):
    """The cost of an answer, as (top, bottom)."""
    *values, bottom = over_one_bottom(answer)
    return (sum(cost * value for cost, value in zip(costs, values)), bottom)


class Worst(unittest.TestCase):
    def is_worst(self, system, costs, cost):
        """Everything that is told of the worst cost is right."""
        told = worst(system, costs)
        self.assertEqual(told, cost, (str(system), costs))
        answer, pair = cheapest(system, costs), worst_member(system, costs)
        if cost is None:
            self.assertEqual([answer, pair], [None, None])
            return
        self.assertTrue(is_fraction(told))
        self.assertTrue(is_answer(answer, len(costs)))
        self.assertTrue(is_sure_at(system.rows, over_one_bottom(answer)))
        top, bottom = cost_of(answer, costs)
        self.assertEqual(top * cost[1], cost[0] * bottom)
        self.assertTrue(shows(system.rows, costs, pair, cost), (str(system), costs, pair))

    def test_against_own_reckoning(self):
        found = {}
        for seed, system in enumerate(SYSTEMS):
            many = len(system.unknowns)
            own = pieces(system.rows, many, True)
            for costs in thrown_costs(many, seed):
                if own:
                    cost = least_cost(own, costs)
                    self.is_worst(system, costs, cost)
                    found[cost is None] = found.get(cost is None, 0) + 1
                    continue
                for call in (worst, cheapest, worst_member):
                    with self.assertRaises(NoSure):
                        call(system, costs)
                found["none"] = found.get("none", 0) + 1
        self.assertGreater(min(found.values()), 100)
        self.assertEqual(len(found), 3)

    def test_costs_of_0_alone(self):
        for system in SYSTEMS:
            if common(system) is not None:
                self.is_worst(system, (0,) * len(system.unknowns), (0, 1))

    def test_without_rows(self):
        for unknowns in (("x",), ("x", "y"), ("x", "y", "z")):
            system = System(unknowns)
            many = len(unknowns)
            self.is_worst(system, (0,) * many, (0, 1))
            self.assertEqual(worst_member(system, (0,) * many), ((), ()))
            for at in range(many):
                for cost in (1, -1, 1000, -1000):
                    self.is_worst(system, tuple([cost if at == place else 0 for place in range(many)]), None)

    def test_no_worst_cost_only_for_some_costs(self):
        system = System(("x", "y"), (("a", ((-2, -1), (0, 0)), (-6, -5)), ("b", ((0, 0), (3, 3)), (7, 8))))
        self.is_worst(system, (1, 0), (6, 1))
        self.is_worst(system, (5, -1), (83, 3))
        self.is_worst(system, (-1, 0), None)
        self.is_worst(system, (0, 1), None)
        self.is_worst(system, (1, 1), None)

    def test_one_answer_alone(self):
        rows = (("a", ((3, 3),), (1, 1)), ("b", ((-3, -3),), (-1, -1)))
        for cost in (-1000, -7, 0, 7, 1000):
            told = {-1000: (-1000, 3), -7: (-7, 3), 0: (0, 1), 7: (7, 3), 1000: (1000, 3)}[cost]
            self.is_worst(System(("x",), rows), (cost,), told)
            self.assertEqual(best(System(("x",), rows), (cost,)), told)


class Best(unittest.TestCase):
    def test_against_own_reckoning(self):
        found = {}
        for seed, system in enumerate(SYSTEMS):
            many = len(system.unknowns)
            own = pieces(system.rows, many, False)
            for costs in thrown_costs(many, seed):
                if own:
                    cost = least_cost(own, costs)
                    self.assertEqual(best(system, costs), cost, (str(system), costs))
                    found[cost is None] = found.get(cost is None, 0) + 1
                    continue
                with self.assertRaises(NoPossible):
                    best(system, costs)
                found["none"] = found.get("none", 0) + 1
        self.assertGreater(min(found.values()), 50)
        self.assertEqual(len(found), 3)

    def test_costs_of_0_alone(self):
        for system in SYSTEMS:
            if possible(system) is not None:
                self.assertEqual(best(system, (0,) * len(system.unknowns)), (0, 1))

    def test_without_rows(self):
        system = System(("x", "y"))
        told = [best(system, costs) for costs in ((0, 0), (1, 0), (0, -1), (-1, 1))]
        self.assertEqual(told, [(0, 1), None, None, None])

    def test_least_over_all_rows_of_signs(self):
        # Possible are all values of x from -4 to -2 and from 1 to 6.
        rows = (("a", ((-1, 1),), (-2, -1)), ("b", ((1, 1),), (5, 6)), ("c", ((-1, -1),), (3, 4)))
        rows = (("a", ((-4, 2),), (-8, -4)),) + rows[1:]
        system = System(("x",), rows)
        self.assertEqual([best(system, (1,)), best(system, (-1,)), best(system, (0,))], [(-4, 1), (-6, 1), (0, 1)])
        self.assertEqual([best(system.without(2), (1,)), best(system.without(1), (-1,))], [None, None])


class Bounded(unittest.TestCase):
    def bounded(self, system, costs, number):
        """The system with one row more, which asks the cost to be at most a number."""
        return system.more(("cost", tuple([(cost, cost) for cost in costs]), (number, number)))

    def around(self, cost):
        """Whole numbers around a cost, and whether they are not below it."""
        if cost is None:
            return [(number, True) for number in (-10000, -1, 0, 10000)]
        floor = cost[0] // cost[1]
        numbers = [floor - 1, floor, floor + 1, floor + 2]
        return [(number, number * cost[1] >= cost[0]) for number in numbers if -10000 <= number <= 10000]

    def test_sure_and_possible_answers_with_one_row_more(self):
        many = 0
        for seed, system in enumerate(SYSTEMS):
            if len(system) == 6:
                continue
            for costs in thrown_costs(len(system.unknowns), seed):
                if common(system) is not None:
                    for number, right in self.around(worst(system, costs)):
                        self.assertIs(common(self.bounded(system, costs, number)) is not None, right)
                        many += 1
                if possible(system) is not None:
                    for number, right in self.around(best(system, costs)):
                        self.assertIs(possible(self.bounded(system, costs, number)) is not None, right)
                        many += 1
        self.assertGreater(many, 2000)


class Example(unittest.TestCase):
    def test_examples_of_the_document(self):
        self.assertEqual(
            [
                worst(SHOP, (2, 1)), best(SHOP, (2, 1)), cheapest(SHOP, (2, 1)), worst(SHOP, (0, -1)),
                best(SHOP, (0, -1)),
            ],
            [(4, 1), (3, 1), ((0, 1), (4, 1)), (-5, 1), None],
        )
        member, weights = worst_member(SHOP, (2, 1))
        self.assertEqual([len(member), len(weights)], [4, 4])
        self.assertTrue(shows(SHOP.rows, (2, 1), (member, weights), (4, 1)))
