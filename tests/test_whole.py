"""[1] to [16] The whole program: the examples of the document, and that what the modules tell agrees."""

import inspect
import unittest

from commonanswer import errors
from commonanswer.answers import is_possible, is_sure, member_against, member_with, rooms
from commonanswer.bars import least_bars, spare_rows
from commonanswer.certificates import certify_all, certify_asks, certify_serves, certify_some, certify_within
from commonanswer.checker import accepts
from commonanswer.common import barring, common, sure_range
from commonanswer.comparing import are_alike, is_within, straying
from commonanswer.console import Console
from commonanswer.costs import best, cheapest, worst, worst_member
from commonanswer.live import Desk
from commonanswer.mends import holds, mends
from commonanswer.possible import possible, possible_range
from commonanswer.seeing import clash, fits, fitting
from commonanswer.shelves import Shelf
from commonanswer.systems import System
from commonanswer.widening import greatest_widening, widened
from tests.calls import LISTED, RIGHT
from tests.examples import EXAMPLES
from tests.papers import is_right
from tests.reckoning import UNKNOWNS, Dice, bars, boxes, is_member, keeps, shows, systems
from tests.samples import SHOP, SHOP_TEXT, odd_values
from tests.wrong import WRONG

MADE = systems(71, most_rows=5) + boxes(72, 10)


def told(call, *passed):
    """What a call returns, or the name of the class of its error."""
    try:
        return call(*passed)
    except (errors.BadValue, errors.BadName, errors.NoAnswer) as error:
        return error.__class__.__name__


def word(number):
    """The word of the console for a fraction, or for none."""
    if number is None:
        return "none"
    return str(number[0]) if number[1] == 1 else f"{number[0]}/{number[1]}"


def desk_with(system):
    """A desk with the rows of a system."""
    desk = Desk(system.unknowns)
    for row in system.rows:
        desk.put(row)
    return desk


def console_with(system):
    """A console whose lines put the rows of a system."""
    console = Console(system.unknowns)
    for line in str(system).split("\n")[1:]:
        assert console.say(line.replace("row", "put", 1)) == "ok"
    return console


def ceiling(number):
    """The least integer that is not below a fraction."""
    return -(-number[0] // number[1])


class Examples(unittest.TestCase):
    def test_examples_of_the_document(self):
        lines = EXAMPLES.strip().split("\n")
        names, done = {}, 0
        while lines:
            source = lines.pop(0).removeprefix(">>> ")
            expected = "" if not lines or lines[0].startswith(">>> ") else lines.pop(0)
            try:
                shown = self.shown(source, names)
            except (errors.BadValue, errors.NoAnswer) as error:
                [(attribute, value)] = vars(error).items()
                shown = f"raises {error.__class__.__name__}({attribute}={value!r})"
            self.assertEqual(shown, expected, source)
            done += 1
        self.assertEqual(done, 55)

    def shown(self, source, names):
        """What Python shows for a line."""
        try:
            code = compile(source, "line", "eval")
        except SyntaxError:
            exec(source, names)
            return ""
        value = eval(code, names)
        return "" if value is None else repr(value)


class Interface(unittest.TestCase):
    def test_classes_and_their_methods(self):
        for own, module, places, listed in (
            (System, "systems", ["unknowns", "rows"],
             ("read", "unknowns", "rows", "names", "__len__", "__str__", "__eq__", "changed", "without", "more")),
            (Desk, "live", ["unknowns"],
             ("put", "narrow", "drop", "undo", "system", "served", "__len__", "trial", "tried")),
            (Shelf, "shelves", [],
             ("__setitem__", "__getitem__", "remove", "ask", "lift", "undo", "trial", "tried", "names", "demands", "changes",
              "__contains__", "__len__")),
            (Console, "console", ["unknowns"], ("say", "desk")),
        ):
            self.assertEqual(own.__module__, f"commonanswer.{module}")
            self.assertEqual(list(inspect.signature(own).parameters), places)
            for name in listed:
                self.assertIn(name, vars(own))

    def test_what_is_read_only(self):
        for held, names in ((SHOP, ("unknowns", "rows", "names")), (desk_with(SHOP), ("system", "served")),
                            (Shelf(), ("names", "demands", "changes")), (Console(("x",)), ("desk",))):
            for name in names:
                with self.assertRaises(AttributeError):
                    setattr(held, name, None)


class Agreement(unittest.TestCase):
    def test_sure_answers(self):
        for system in MADE:
            answer, many = common(system), len(system.unknowns)
            sure = answer is not None
            self.assertEqual([sure, desk_with(system).served, holds(system, ("all",))], [sure] * 3)
            self.assertEqual([barring(system) is None, least_bars(system) == ()], [sure] * 2)
            self.assertEqual(certify_all(system)[0], ("all" if sure else "barred", str(system)))
            self.assertEqual(console_with(system).say("all"), "yes" if sure else "no")
            self.assertEqual(mends(system, (("all",),), ()), ((),) if sure else ())
            for call, passed in ((sure_range, system.unknowns[0]), (worst, (1,) * many), (cheapest, (0,) * many),
                                 (worst_member, (-1,) * many), (certify_serves, (0,) * many), (certify_asks, (0,) * many)):
                self.assertEqual(told(call, system, passed) == "NoSure", not sure)
            self.assertEqual(told(greatest_widening, system) == "NoSure", not sure)
            if sure:
                self.assertTrue(is_sure(system, answer) and is_possible(system, answer))
                self.assertTrue(all(low[0] >= 0 for low, _ in rooms(system, answer)))
                self.assertTrue(fits(system, (answer,) * 8) and keeps(member_with(system, answer), answer))
                self.assertEqual([member_against(system, answer), clash(system, (answer,))], [None, None])
                self.assertTrue(holds(system, ("sure", answer)) and holds(system, ("some",)))
            else:
                self.assertTrue(bars(system.rows, many, barring(system)))

    def test_possible_answers(self):
        for system in MADE:
            answer = possible(system)
            can = answer is not None
            self.assertIs(holds(system, ("some",)), can)
            self.assertEqual(certify_some(system)[0], ("some" if can else "none", str(system)))
            self.assertEqual(console_with(system).say("some"), "yes" if can else "no")
            for call, passed in ((possible_range, system.unknowns[-1]), (best, (1,) * len(system.unknowns))):
                self.assertEqual(told(call, system, passed) == "NoPossible", not can)
            if can:
                self.assertTrue(is_possible(system, answer) and fits(system, (answer,)))
                self.assertTrue(all(high[0] >= 0 for _, high in rooms(system, answer)))
                self.assertTrue(is_member(system.rows, member_with(system, answer)))
                self.assertTrue(keeps(fitting(system, (answer,)), answer))
                self.assertEqual(is_sure(system, answer), member_against(system, answer) is None)
            else:
                self.assertIsNone(common(system))

    def test_costs_and_ranges(self):
        for seed, system in enumerate(MADE):
            many, console = len(system.unknowns), console_with(system)
            costs = tuple([Dice(seed + at).throw(-9, 9) for at in range(many)])
            line = " ".join([str(cost) for cost in costs])
            worst_told, best_told = told(worst, system, costs), told(best, system, costs)
            for verb, own in (("worst", worst_told), ("best", best_told)):
                self.assertEqual(console.say(f"{verb} {line}"), own if isinstance(own, str) else word(own))
            for at, name in enumerate(system.unknowns):
                ends = told(sure_range, system, name)
                unit = [1 if at == place else 0 for place in range(many)]
                if ends == "NoSure":
                    self.assertEqual(console.say(f"range {name}"), ends)
                    continue
                least, most = worst(system, tuple(unit)), worst(system, tuple([-own for own in unit]))
                self.assertEqual(ends, (least, None if most is None else (-most[0], most[1])))
                self.assertEqual(console.say(f"range {name}"), f"{word(ends[0])} {word(ends[1])}")
            if worst_told == "NoSure":
                continue
            if worst_told is None:
                self.assertEqual([cheapest(system, costs), worst_member(system, costs)], [None, None])
                self.assertTrue(holds(system, ("serves", costs, -(10 ** 6))) and best_told is None)
                self.assertEqual([told(certify_serves, system, costs), told(certify_asks, system, costs)], ["NoSure"] * 2)
                continue
            self.assertTrue(shows(system.rows, costs, worst_member(system, costs), worst_told))
            self.assertEqual(certify_serves(system, costs)[0], ("serves", str(system), costs, *worst_told))
            self.assertEqual(certify_asks(system, costs)[0], ("asks", str(system), costs, *worst_told))
            self.assertTrue(is_sure(system, cheapest(system, costs)))
            self.assertTrue(best_told is None or best_told[0] * worst_told[1] <= worst_told[0] * best_told[1])
            most = ceiling(worst_told)
            if abs(most) < 10 ** 6:
                self.assertEqual([holds(system, ("serves", costs, most + step)) for step in (-1, 0, 1)], [False, True, True])

    def test_bars_and_widening(self):
        for system in MADE:
            for index in range(len(system)):
                spare = index in spare_rows(system)
                self.assertIs(are_alike(system.without(index), system), spare)
                self.assertIs(is_within(system.without(index), system), spare)
            for bar in least_bars(system):
                rows = [system.rows[index] for index in bar]
                self.assertIsNone(common(System(system.unknowns, tuple(rows))))
                for own in rows:
                    fewer = System(system.unknowns, tuple([row for row in rows if row != own]))
                    self.assertIsNotNone(common(fewer))
            most = told(greatest_widening, system)
            for steps in (0, 1, 5) if most == "NoSure" else (0, most, most + 1):
                wide = told(widened, system, steps)
                if wide != "InvalidSteps":
                    self.assertIs(holds(wide, ("all",)), most != "NoSure" and steps <= most)

    def test_two_systems(self):
        for seed, one in enumerate(MADE):
            others = [own for own in MADE if own.unknowns == one.unknowns]
            for other in (Dice(seed).pick(others), one, System(one.unknowns, one.rows[1:]), System(one.unknowns)):
                inside, back = is_within(one, other), is_within(other, one)
                self.assertIs(are_alike(one, other), inside and back)
                self.assertEqual([straying(one, other) is None, holds(one, ("like", str(other)))], [inside, inside and back])
                self.assertEqual(certify_within(one, other)[0][0], "within" if inside else "strays")
                shelf = Shelf()
                shelf["one"], shelf["other"] = one, other
                broken = [told(shelf.ask, (verb, "one", "other")) for verb in ("within", "alike")]
                self.assertEqual(broken, [None if inside else "Broken", None if inside and back else "Broken"])
                self.assertEqual(told(shelf.ask, ("one", ("like", str(other)))), broken[1])

    def test_papers(self):
        for seed, system in enumerate(MADE):
            costs = tuple([Dice(seed + at).throw(-3, 3) for at in range(len(system.unknowns))])
            other = System(system.unknowns, system.rows[1:])
            for call, *passed in ((certify_all, system), (certify_some, system), (certify_serves, system, costs),
                                  (certify_asks, system, costs), (certify_within, other, system),
                                  (certify_within, system, other)):
                paper = told(call, *passed)
                if paper != "NoSure":
                    self.assertTrue(is_right(*paper))
                    self.assertIs(accepts(*paper), True)
                    self.assertEqual(told(call, *passed), paper)

    def test_systems_stay_as_they_were(self):
        texts = [str(system) for system in MADE[:60]]
        for system in MADE[:60]:
            for call in (common, barring, possible, least_bars, spare_rows, certify_all, certify_some):
                first = told(call, system)
                self.assertEqual(told(call, System.read(str(system))), first)
                self.assertEqual(told(call, system), first)
        self.assertEqual([str(system) for system in MADE[:60]], texts)
        self.assertEqual(str(SHOP), SHOP_TEXT)


class Raised(unittest.TestCase):
    """Each error is raised only where the document lists it."""

    LAST = {
        "sure_range": "NoSure", "worst": "NoSure", "cheapest": "NoSure", "worst_member": "NoSure",
        "greatest_widening": "NoSure", "certify_serves": "NoSure", "certify_asks": "NoSure", "possible_range": "NoPossible",
        "best": "NoPossible", "is_within": "OtherUnknowns", "straying": "OtherUnknowns", "are_alike": "OtherUnknowns",
        "certify_within": "OtherUnknowns",
    }
    OWN = {
        "system": "NotASystem", "one": "NotASystem", "other": "NotASystem", "answer": "InvalidAnswer", "name": "InvalidName",
        "costs": "InvalidCosts", "steps": "InvalidSteps", "seen": "InvalidSeen", "demand": "InvalidDemand",
        "demands": "InvalidDemands", "changes": "InvalidChanges",
    }
    SYSTEMS = [SHOP, System(("x",)), System(("y", "x")), System(UNKNOWNS), System(("x", "y"), (("a", ((0, 0),) * 2, (-2, -1)),))]

    def test_functions(self):
        for module, name, places in LISTED:
            call = getattr(module, name)
            listed = {self.OWN[place] for place in places if place in self.OWN} | {self.LAST.get(name)}
            for system in self.SYSTEMS:
                for at, place in enumerate(places):
                    right = [system if own in ("system", "one") else RIGHT[own][0] for own in places]
                    wrong = odd_values() + [value for value, _ in WRONG[place][::7]] + RIGHT[place]
                    for value in wrong[::3] + self.SYSTEMS:
                        passed = right[:at] + [value] + right[at + 1:]
                        own = told(call, *passed)
                        if isinstance(own, str):
                            self.assertIn(own, listed, (name, passed))

    def test_methods(self):
        listed = {
            ("desk", "put", 1): ["InvalidRow"], ("desk", "narrow", 3): ["InvalidName", "InvalidStretch"],
            ("desk", "drop", 1): ["InvalidName"], ("desk", "undo", 0): ["NothingToUndo"],
            ("shelf", "remove", 1): ["UnknownName", "InUse"], ("shelf", "ask", 1): ["InvalidDemand", "UnknownName", "Broken"],
            ("shelf", "lift", 1): ["InvalidIndex"], ("shelf", "undo", 0): ["NothingToUndo"],
            ("console", "say", 1): ["InvalidText"], ("system", "changed", 1): ["InvalidChange"],
            ("system", "without", 1): ["InvalidIndex"], ("system", "more", 1): ["InvalidRows"],
        }
        right = ["need", "x", (-2, -1), 0, 1, ("need", ("all",)), ("alike", "need", "need"), ("need", ("like", "unknowns x")), SHOP.rows[1], "rows", "drop x", SHOP,
                 ("need", "x", (1, 1)), ("a", ("serves", (1,), 0)), ("x", ("like", "unknowns x")), SHOP_TEXT, "worst 1 1"]
        found = {}
        for (whose, name, many), kinds in listed.items():
            shelf = Shelf()
            shelf["need"], shelf["x"] = SHOP, System(("x",))
            held = {"desk": desk_with(SHOP), "shelf": shelf, "console": console_with(SHOP), "system": SHOP}
            values = right + odd_values() if many == 1 else right
            for first in values:
                for second in values if many == 3 else [None]:
                    passed = [first, second, first][:many]
                    own = told(getattr(held[whose], name), *passed)
                    if own is not None and own.__class__ is str and whose != "console" or own == "InvalidText":
                        self.assertIn(own, kinds, (whose, name, passed))
                        found[own] = True
        self.assertEqual(sorted(found), sorted({kind for kinds in listed.values() for kind in kinds} - {"InUse"}))
