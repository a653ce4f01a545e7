"""[3] to [5] What calls take: by position and by name, the errors and their order, and that nothing is changed."""

import copy
import inspect
from itertools import product

from commonanswer.errors import (
    BadName, BadValue, InvalidCosts, InvalidName, NoAnswer, NoPossible, NoSure, NotASystem, OtherUnknowns,
)
from commonanswer.systems import System
from tests.calls import ERRORS, LISTED, RIGHT, calls, ways
from tests.raising import Raising
from tests.samples import FOUR, SHOP, SHOP_TEXT, odd_values
from tests.wrong import WRONG

NONE = System(("x", "y"), (("a", ((0, 0), (0, 0)), (-2, -1)),))
MAYBE = System(("x", "y"), (("a", ((0, 0), (0, 0)), (-2, 1)),))


def outcome(way):
    """What a call returns, or the class of its error with what it tells."""
    try:
        return ("returned", way())
    except (BadValue, BadName, NoAnswer) as error:
        return (error.__class__, vars(error))


class Passed(Raising):
    def test_calls_are_defined_where_they_are_listed(self):
        for module, name, places in LISTED:
            call = getattr(module, name)
            self.assertEqual([call.__module__, call.__name__], [module.__name__, name])
            self.assertEqual(tuple(inspect.signature(call).parameters), places)
            for told in inspect.signature(call).parameters.values():
                self.assertIs(told.default, told.empty)
                self.assertIs(told.kind, told.POSITIONAL_OR_KEYWORD)

    def test_by_position_and_by_name_and_twice_the_same(self):
        for call, places in calls():
            for passed in product(*[RIGHT[place] for place in places]):
                before = outcome(lambda: call(*passed))
                for way in ways(call, places, passed):
                    self.assertEqual(outcome(way), before)
                for other, others in calls():
                    outcome(lambda: other(*[RIGHT[place][1] for place in others]))
                self.assertEqual(outcome(lambda: call(*passed)), before)

    def test_equal_values_give_equal_results(self):
        for call, places in calls():
            for passed in product(*[RIGHT[place] for place in places]):
                copied = [System.read(str(own)) if isinstance(own, System) else copy.deepcopy(own) for own in passed]
                self.assertEqual(outcome(lambda: call(*copied)), outcome(lambda: call(*passed)))

    def test_nothing_is_changed(self):
        for call, places in calls():
            for passed in product(*[RIGHT[place] for place in places]):
                texts = [str(own) for own in passed]
                outcome(lambda: call(*passed))
                self.assertEqual([str(own) for own in passed], texts)
            for place in places:
                for value in ([1, 2], {"x": 1}, [[1, 1], [1, 1]], ([1, 1], [1, 1])):
                    given = copy.deepcopy(value)
                    outcome(lambda: call(*[given if own == place else RIGHT[own][0] for own in places]))
                    self.assertEqual(given, value)
        self.assertEqual(str(SHOP), SHOP_TEXT)

    def test_one_wrong_value(self):
        for call, places in calls():
            for at, place in enumerate(places):
                for value, told in WRONG[place]:
                    passed = [value if at == own else RIGHT[name][0] for own, name in enumerate(places)]
                    self.raised((ERRORS[place], told), lambda: call(*passed))
                    self.raised((ERRORS[place], told), lambda: call(**dict(zip(places, passed))))

    def test_first_wrong_value_counts(self):
        for call, places in calls():
            for at, place in enumerate(places):
                for value, told in WRONG[place][::5]:
                    for later in (None, [1], (), value):
                        passed = [RIGHT[name][0] for name in places[:at]] + [value] + [later] * (len(places) - at - 1)
                        for way in ways(call, places, passed):
                            self.raised((ERRORS[place], told), way)

    def test_unknowns_of_the_system_count(self):
        three = System(("z", "x", "w"))
        one = System(("w",))
        long = ((1, 1),) * 3
        right = {
            "name": "z", "answer": long, "costs": (1, 1, 1), "seen": (long, long), "demand": ("like", "unknowns z x w"),
        }
        wrong = {"name": "y", "answer": FOUR, "costs": (1, 1), "seen": (FOUR,), "demand": ("like", "unknowns x z w")}
        for call, places in calls():
            if len(places) == 2 and places[1] in right:
                place = places[1]
                self.assertNotIn(outcome(lambda: call(three, right[place]))[0], (ERRORS[place], NotASystem))
                for system, value in ((three, wrong[place]), (one, right[place]), (one, wrong[place])):
                    told = {"index": 0} if place == "seen" else {"given": value}
                    for way in ways(call, places, (system, value)):
                        self.raised((ERRORS[place], told), way)


class Last(Raising):
    def test_no_sure_and_no_possible_answer(self):
        asking = {
            "sure_range": "x", "worst": (1, 0), "cheapest": (0, 0), "worst_member": (0, 1), "certify_serves": (0, 0),
            "certify_asks": (-1, 1),
        }
        for call, places in calls():
            name = call.__name__
            if name in asking:
                for system in (NONE, MAYBE):
                    for way in ways(call, places, (system, asking[name])):
                        self.raised((NoSure, {}), way)
            elif name in ("possible_range", "best"):
                value = "y" if name == "possible_range" else (0, 0)
                for way in ways(call, places, (NONE, value)):
                    self.raised((NoPossible, {}), way)
                self.assertEqual(outcome(lambda: call(MAYBE, value))[0], "returned")
            elif name == "greatest_widening":
                for system in (NONE, MAYBE):
                    for way in ways(call, places, (system,)):
                        self.raised((NoSure, {}), way)

    def test_they_are_looked_at_behind_all_others(self):
        for call, places in calls():
            kind = {("system", "name"): InvalidName, ("system", "costs"): InvalidCosts}.get(places)
            for value in odd_values() if kind else ():
                self.raised((kind, {"given": value}), lambda: call(NONE, value))

    def test_other_unknowns(self):
        ones = [System(("x", "y")), SHOP, NONE]
        others = [
            System(("y", "x")), System(("x",)), System(("x", "y", "z")), System(("x", "z")), System(("y",)),
            System(("y", "x"), SHOP.rows), System(("x",), (("a", ((0, 0),), (-1, -1)),)),
        ]
        for call, places in calls():
            if places == ("one", "other"):
                for one, other in product(ones, others):
                    for way in ways(call, places, (one, other)):
                        self.raised((OtherUnknowns, {"given": other}), way)
                    for way in ways(call, places, (other, one)):
                        self.raised((OtherUnknowns, {"given": one}), way)
                for other in others:
                    self.raised((NotASystem, {"given": None}), lambda: call(None, other))
                    self.raised((NotASystem, {"given": "x"}), lambda: call(other, "x"))
