"""[15] Shelves: systems under names and demands on them, against lists that the test keeps by itself."""

import inspect

from commonanswer.errors import (
    Broken, InUse, InvalidDemand, InvalidIndex, InvalidName, NotASystem, NothingToUndo, UnknownName,
)
from commonanswer.shelves import Shelf
from commonanswer.systems import System
from tests.raising import Raising
from tests.reckoning import Dice, shelf_holds
from tests.samples import FOUR, NEED, SHOP, SHOP_TEXT, THREE, TIGHT, odd_values

EASY = SHOP.more(("easy", ((1, 1), (0, 0)), (5, 9)))
NONE = System(("x", "y"), (("a", ((0, 0), (0, 0)), (-2, -1)),))
TURNED = System(("y", "x"), SHOP.rows)
LINE = System(("x",), (("a", ((1, 2),), (3, 4)), ("b", ((-1, -1),), (0, 0))))
SYSTEMS = (SHOP, TIGHT, EASY, NONE, TURNED, LINE, System(("x", "y")), System(("x",)), SHOP.without(0), SHOP)
NAMES = ("a", "b", "alike", "within", "bound", "all")
OWN_DEMANDS = (
    ("all",), ("some",), ("some",), ("serves", (2, 1), 4), ("serves", (1,), 0), ("serves", (-1, 0), -1),
    ("serves", (0, 0, 0), 10 ** 6), ("sure", FOUR), ("sure", THREE), ("sure", ((1, 1),)), ("like", SHOP_TEXT),
    ("like", str(TIGHT)), ("like", str(LINE)), ("like", "unknowns x y"), ("like", "unknowns y x"),
)


class Kept:
    """A shelf as the test keeps it: a list of pairs of systems by name and demands, the last one what there is now."""

    def __init__(self):
        self.all = [({}, [])]

    def changed(self, placed, asked):
        """The error for what there would be then, None if it is right and now there."""
        for index, demand in enumerate(asked):
            if not shelf_holds(placed, demand):
                return (Broken, {"index": index})
        self.all.append((placed, asked))
        return None

    def put(self, name, system):
        placed, asked = self.all[-1]
        return self.changed({**placed, name: system}, asked)

    def remove(self, name):
        placed, asked = self.all[-1]
        if name not in placed:
            return (UnknownName, {"given": name})
        for index, demand in enumerate(asked):
            if name in (demand[1:] if len(demand) == 3 else demand[:1]):
                return (InUse, {"index": index})
        return self.changed({own: placed[own] for own in placed if own != name}, asked)

    def ask(self, demand):
        placed, asked = self.all[-1]
        for name in demand[1:] if len(demand) == 3 else demand[:1]:
            if name not in placed:
                return (UnknownName, {"given": name})
        return self.changed(placed, asked + [demand])

    def lift(self, index):
        placed, asked = self.all[-1]
        if not 0 <= index < len(asked):
            return (InvalidIndex, {"given": index})
        return self.changed(placed, asked[:index] + asked[index + 1:])

    def undo(self):
        if len(self.all) == 1:
            return (NothingToUndo, {})
        self.all.pop()
        return None


def thrown_deed(dice, kept):
    """The name of a method and what it is passed."""
    word = dice.pick(("put", "put", "put", "ask", "ask", "ask", "remove", "lift", "undo"))
    if word == "put":
        return word, (dice.pick(NAMES), dice.pick(SYSTEMS))
    if word == "remove":
        return word, (dice.pick(NAMES),)
    if word == "lift":
        return word, (dice.throw(-1, len(kept.all[-1][1])),)
    if word == "undo":
        return word, ()
    if dice.throw(0, 2) == 0:
        return word, ((dice.pick(("alike", "within")), dice.pick(NAMES), dice.pick(NAMES)),)
    return word, ((dice.pick(NAMES), dice.pick(OWN_DEMANDS)),)


def put(shelf, name, system):
    """Put a system on a shelf."""
    shelf[name] = system


class Shelves(Raising):
    def stands(self, shelf, kept):
        """The shelf has just what the test keeps."""
        placed, asked = kept.all[-1]
        self.assertEqual(shelf.names, tuple(sorted(placed)))
        self.assertEqual(shelf.demands, tuple(asked))
        self.assertEqual([shelf.changes, len(shelf)], [len(kept.all) - 1, len(placed)])
        self.assertEqual([shelf.names.__class__, shelf.demands.__class__], [tuple, tuple])
        for name in NAMES + ("c", "", "A"):
            self.assertIs(name in shelf, name in placed)
            self.assertIs(name not in shelf, name not in placed)
        for name in placed:
            self.assertIs(shelf[name], placed[name])

    def done_alike(self, shelf, kept, word, passed):
        """The deed is done, or raises its error, at the shelf as in what the test keeps."""
        told = getattr(kept, word)(*passed)
        call = (lambda *given: put(shelf, *given)) if word == "put" else getattr(shelf, word)
        if told is None:
            self.assertIsNone(call(*passed))
        else:
            self.raised(told, call, *passed)
        self.stands(shelf, kept)
        return told


class Deeds(Shelves):
    def test_long_rows_of_deeds(self):
        done, errors, most = 0, {}, 0
        for seed in range(40):
            dice = Dice(seed)
            shelf, kept = Shelf(), Kept()
            self.stands(shelf, kept)
            for _ in range(90):
                told = self.done_alike(shelf, kept, *thrown_deed(dice, kept))
                done += told is None
                most = max(most, len(shelf.demands))
                if told is not None:
                    errors[told[0]] = errors.get(told[0], 0) + 1
                if told is not None and told[0] is Broken and 0 < told[1]["index"] < len(shelf.demands):
                    errors["later"] = errors.get("later", 0) + 1
            while len(kept.all) > 1:
                self.done_alike(shelf, kept, "undo", ())
            self.raised((NothingToUndo, {}), shelf.undo)
            self.stands(shelf, kept)
        self.assertGreater(done, 1000)
        self.assertGreater(most, 6)
        for kind in (Broken, InUse, UnknownName, InvalidIndex, "later"):
            self.assertGreater(errors.get(kind, 0), 20, errors)

    def test_by_name(self):
        shelf = Shelf()
        shelf["now"] = SHOP
        self.assertIsNone(shelf.ask(demand=("now", ("all",))))
        self.assertIsNone(shelf.lift(index=0))
        self.assertIsNone(shelf.remove(name="now"))
        self.assertEqual(shelf.tried(action=len), 0)
        self.assertIsNone(shelf.undo())
        self.assertEqual(list(inspect.signature(Shelf).parameters), [])
        for name, places in (("remove", ["name"]), ("ask", ["demand"]), ("lift", ["index"]), ("undo", []), ("trial", []),
                             ("tried", ["action"])):
            self.assertEqual(list(inspect.signature(getattr(shelf, name)).parameters), places)
            self.assertIn(name, vars(Shelf))
        for name in ("names", "demands", "changes"):
            self.assertIsInstance(vars(Shelf)[name], property)
        for name in ("__getitem__", "__setitem__", "__contains__", "__len__"):
            self.assertIn(name, vars(Shelf))

    def test_in_the_place_of_another_one(self):
        shelf = Shelf()
        for system in (SHOP, TIGHT, LINE):
            shelf["a"] = system
            self.assertIs(shelf["a"], system)
        self.assertEqual([len(shelf), shelf.changes, shelf.names], [1, 3, ("a",)])
        shelf.undo()
        self.assertIs(shelf["a"], TIGHT)
        shelf.undo()
        self.assertIs(shelf["a"], SHOP)
        shelf.undo()
        self.assertEqual([len(shelf), shelf.changes, "a" in shelf], [0, 0, False])

    def test_each_change_counts(self):
        shelf = Shelf()
        for times in range(1, 4):
            shelf["a"] = SHOP
            self.assertEqual(shelf.changes, times)
        for times in range(4, 7):
            shelf.ask(("a", ("all",)))
            self.assertEqual([shelf.changes, len(shelf.demands)], [times, times - 3])
        shelf.lift(1)
        self.assertEqual([shelf.changes, shelf.demands], [7, (("a", ("all",)),) * 2])
        for times in range(7, 0, -1):
            self.assertEqual(shelf.changes, times)
            shelf.undo()
        self.assertEqual([shelf.changes, shelf.names, shelf.demands], [0, (), ()])
        self.raised((NothingToUndo, {}), shelf.undo)

    def test_lift_the_very_one(self):
        shelf = Shelf()
        shelf["a"] = SHOP
        demands = [("a", ("all",)), ("a", ("some",)), ("alike", "a", "a"), ("within", "a", "a"), ("a", ("sure", FOUR))]
        for demand in demands:
            shelf.ask(demand)
        for index in (2, 3, 0, 1, 0):
            shelf.lift(index)
            del demands[index]
            self.assertEqual(shelf.demands, tuple(demands))

    def test_demand_that_is_none_on_this_system(self):
        shelf = Shelf()
        shelf["a"] = SHOP
        for own in (("serves", (0,), 10 ** 6), ("sure", ((0, 1),)), ("like", "unknowns y x"), ("like", str(TURNED)),
                    ("serves", (0, 0, 0), 10 ** 6), ("sure", ((0, 1),) * 3), ("like", "unknowns x")):
            self.raised((Broken, {"index": 0}), shelf.ask, ("a", own))
        shelf["a"] = LINE
        shelf.ask(("a", ("serves", (0,), 0)))
        shelf.ask(("a", ("sure", ((0, 1),))))
        shelf.ask(("a", ("like", str(LINE))))
        for system, index in ((SHOP, 0), (System(("x",)), 2), (System(("z",), LINE.rows), 2), (NONE, 0)):
            self.raised((Broken, {"index": index}), put, shelf, "a", system)
        self.assertIs(shelf["a"], LINE)
        shelf["a"] = System(("x",), LINE.rows[::-1])
        shelf.lift(2)
        shelf["a"] = System(("z",), LINE.rows)
        self.assertEqual(len(shelf.demands), 2)

    def test_same_name_twice(self):
        shelf = Shelf()
        for name, system in (("a", SHOP), ("b", NONE)):
            shelf[name] = system
            shelf.ask(("alike", name, name))
            shelf.ask(("within", name, name))
            self.raised((InUse, {"index": len(shelf.demands) - 2}), shelf.remove, name)
        for system in SYSTEMS:
            shelf["a"] = system
        self.raised((UnknownName, {"given": "c"}), shelf.ask, ("alike", "c", "c"))

    def test_alike_and_within(self):
        shelf = Shelf()
        for name, system in (("shop", SHOP), ("tight", TIGHT), ("easy", EASY), ("turned", TURNED), ("line", LINE)):
            shelf[name] = system
        for one in shelf.names:
            for other in shelf.names:
                for word in ("alike", "within"):
                    demand = (word, one, other)
                    if shelf_holds({name: shelf[name] for name in shelf.names}, demand):
                        shelf.ask(demand)
                        shelf.lift(0)
                    else:
                        self.raised((Broken, {"index": 0}), shelf.ask, demand)
        self.raised((Broken, {"index": 0}), shelf.ask, ("within", "shop", "tight"))
        shelf.ask(("within", "tight", "shop"))
        shelf.ask(("alike", "shop", "easy"))
        self.raised((Broken, {"index": 0}), put, shelf, "shop", TURNED)
        self.raised((Broken, {"index": 1}), put, shelf, "shop", System(("x", "y")))
        self.raised((Broken, {"index": 1}), put, shelf, "easy", LINE)
        self.raised((Broken, {"index": 0}), put, shelf, "tight", System(("x", "y")))

    def test_two_shelves_do_not_touch_each_other(self):
        one, other = Shelf(), Shelf()
        one["a"] = SHOP
        self.assertEqual([other.names, other.changes, "a" in other], [(), 0, False])
        other["a"] = LINE
        one.ask(("a", ("all",)))
        other["a"] = System(("x",))
        self.assertEqual([one.demands, other.demands, one["a"], len(one)], [(("a", ("all",)),), (), SHOP, 1])
        with self.assertRaises(KeyError), one.trial():
            one["b"] = SHOP
            other["b"] = SHOP
            raise KeyError
        self.assertEqual([one.names, other.names], [("a",), ("a", "b")])

    def test_same_in_the_same_condition(self):
        one, other = Shelf(), Shelf()
        for shelf, names in ((one, ("b", "a")), (other, ("a", "b"))):
            for name in names:
                shelf[name] = SHOP
            shelf.ask(("alike", "a", "b"))
        told = [(shelf.names, shelf.demands, shelf.changes, len(shelf), shelf["a"]) for shelf in (one, other, one)]
        self.assertEqual(told[1:], told[:1] * 2)
        for shelf in (one, other, one):
            self.raised((Broken, {"index": 0}), put, shelf, "b", TIGHT)
            self.raised((InUse, {"index": 0}), shelf.remove, "b")

    def test_trials_with_one_object(self):
        shelf = Shelf()
        shelf["a"] = SHOP
        trial = shelf.trial()
        with self.assertRaises(KeyError), trial:
            shelf["b"] = TIGHT
            with self.assertRaises(ValueError), trial as held:
                held.ask(("b", ("some",)))
                shelf.undo()
                shelf.undo()
                shelf.undo()
                self.assertEqual([held.names, held.changes], [(), 0])
                raise ValueError
            self.assertEqual([shelf.names, shelf.demands, shelf.changes], [("a", "b"), (), 2])
            with trial:
                shelf.ask(("b", ("some",)))
            self.assertEqual([shelf.demands, shelf.changes], [(("b", ("some",)),), 3])
            raise KeyError
        self.assertEqual([shelf.names, shelf.demands, shelf.changes], [("a",), (), 1])

    def test_equal_to_itself_alone_and_true(self):
        one, other = Shelf(), Shelf()
        self.assertTrue(one == one)
        self.assertFalse(one != one)
        self.assertFalse(one == other)
        self.assertTrue(one != other)
        for value in odd_values() + [SHOP, one.trial()]:
            self.assertIs(one == value, False)
            self.assertIs(one != value, True)
        self.assertTrue(one and other.trial())
        self.assertEqual([one, other].index(other), 1)

    def test_values_of_all_kinds_in_it(self):
        shelf = Shelf()
        shelf["x"] = SHOP
        shelf["a"] = SHOP
        for value in odd_values() + [("x",), ["x"], {"x": 1}, SHOP, shelf, 0, 1, b"x", "X", "xa", "x a"]:
            self.assertIs(value in shelf, False)
            self.assertIs(value not in shelf, True)
        self.assertFalse(shelf in [SHOP, None, "x", Shelf(), {}])
        self.assertTrue(shelf in [SHOP, shelf])

    def test_systems_and_demands_stay_as_they_were(self):
        shelf = Shelf()
        shelf["a"] = SHOP
        demand = ("a", ("serves", (2, 1), 4))
        shelf.ask(demand)
        demands, names = shelf.demands, shelf.names
        shelf["b"] = TIGHT
        shelf.ask(("within", "b", "a"))
        self.assertEqual([demands, names, demand], [(demand,), ("a",), ("a", ("serves", (2, 1), 4))])
        self.assertEqual(str(shelf["a"]), SHOP_TEXT)
        self.assertEqual(shelf["a"], SHOP)

    def test_example(self):
        shelf = Shelf()
        shelf["now"] = SHOP
        shelf["then"] = TIGHT
        shelf.ask(("within", "then", "now"))
        self.assertEqual(
            [shelf.names, len(shelf.demands), shelf.changes, "other" in shelf], [("now", "then"), 1, 3, False],
        )
        self.raised((Broken, {"index": 1}), shelf.ask, ("then", ("all",)))


class Errors(Shelves):
    def setUp(self):
        self.shelf, self.kept = Shelf(), Kept()
        for word, passed in (("put", ("a", SHOP)), ("put", ("b", TIGHT)), ("put", ("c", LINE)),
                             ("ask", (("within", "b", "a"),)), ("ask", (("a", ("all",)),)), ("ask", (("b", ("some",)),))):
            self.done_alike(self.shelf, self.kept, word, passed)

    def tearDown(self):
        self.stands(self.shelf, self.kept)
        while len(self.kept.all) > 1:
            self.done_alike(self.shelf, self.kept, "undo", ())
        self.raised((NothingToUndo, {}), self.shelf.undo)

    def test_names_to_put_under(self):
        for value in odd_values() + ["A", "", "a b", "abcdefghi", "1a", "a-b", "ä", ("a",), ["a"], SHOP, 0, b"a", "a\n"]:
            for system in (SHOP, None, value):
                self.raised((InvalidName, {"given": value}), put, self.shelf, value, system)
        for name in ("bound", "x", "abcdefgh", "a1", "unknowns"):
            self.done_alike(self.shelf, self.kept, "put", (name, SHOP))

    def test_no_systems_to_put(self):
        for value in odd_values() + [SHOP_TEXT, SHOP.rows, (SHOP,), [SHOP], Shelf(), "a"]:
            if not isinstance(value, System):
                for name in ("a", "b", "new"):
                    self.raised((NotASystem, {"given": value}), put, self.shelf, name, value)

    def test_unknown_names(self):
        for value in odd_values() + ["x", "d", "A", "ab", "", ("a",), ["a"], {"a": 1}, 0, b"a", "abcdefghi"]:
            self.raised((UnknownName, {"given": value}), lambda given: self.shelf[given], value)
            self.raised((UnknownName, {"given": value}), self.shelf.remove, value)
            self.raised((UnknownName, {"given": value}), self.shelf.remove, name=value)

    def test_names_in_use(self):
        for name, index in (("a", 0), ("b", 0)):
            self.raised((InUse, {"index": index}), self.shelf.remove, name)
        self.done_alike(self.shelf, self.kept, "lift", (0,))
        for name, index in (("a", 0), ("b", 1)):
            self.raised((InUse, {"index": index}), self.shelf.remove, name)
        self.done_alike(self.shelf, self.kept, "remove", ("c",))
        self.raised((UnknownName, {"given": "c"}), self.shelf.remove, "c")
        self.raised((UnknownName, {"given": "c"}), lambda given: self.shelf[given], "c")
        self.done_alike(self.shelf, self.kept, "ask", (("within", "b", "b"),))
        self.done_alike(self.shelf, self.kept, "lift", (1,))
        self.raised((InUse, {"index": 1}), self.shelf.remove, "b")

    def test_no_demands(self):
        own = ("all",)
        wrong = odd_values() + [
            own, ("a", own, own), ["a", own], ("a", [*own]), ("a", ("none",)), ("A", own), ("", own), ("abcdefghi", own),
            (None, own), (own, "a"), ("a", "all"), ("a", ("a", own)), ("alike", "a"), ("alike", "a", "b", "c"),
            ("alike", ("a", "b")), ["alike", "a", "b"], ("Alike", "a", "b"), ("strays", "a", "b"), ("like", "a", "b"),
            ("alike", "A", "b"), ("alike", "a", "B"), ("within", "", "b"), ("within", "a", None), ("within", ["a"], "b"),
            ("within", "a", ["b"]), ("within", 0, 1), ("a", ("alike", "a", "b")), ("within", SHOP_TEXT, SHOP_TEXT),
            ("within", SHOP, TIGHT), ("a", ("serves", (), 0)), ("a", ("serves", (0,) * 4, 0)), ("a", ("sure", ())),
            ("a", ("serves", (0, 1001), 0)), ("a", ("serves", (0, 0), 10 ** 6 + 1)), ("a", ("serves", (0, 0), True)),
            ("a", ("sure", ((0, 1),) * 4)), ("a", ("sure", ((0, 2), (0, 1)))), ("a", ("like", "unknowns")),
            ("a", ("like", SHOP)), ("a", ("like", SHOP_TEXT + "\n")), ("a", ("like", "unknowns x x")), ("zz", ("none",)),
            ("a", ("all", None)), ("a", ()), ("a", None), (SHOP, own), ("zz", None), ("alike", "zz", 0), (), ("a",), "a",
        ]
        for value in wrong:
            self.raised((InvalidDemand, {"given": value}), self.shelf.ask, value)
            self.raised((InvalidDemand, {"given": value}), self.shelf.ask, demand=value)

    def test_values_of_all_kinds_in_demands(self):
        for value in odd_values():
            if value.__class__ is int or value.__class__ is tuple and value and value[0].__class__ is int:
                continue
            for demand in (("a", value), (value, ("all",)), ("alike", "a", value), ("within", value, "a"), (value, "a", "b"),
                           ("a", ("like", value)), ("a", ("sure", value)), ("a", ("serves", value, 0)), (value, value),
                           ("a", ("sure", (value, (0, 1)))), ("a", ("serves", (0, value), 0)), ("a", (value,))):
                self.raised((InvalidDemand, {"given": demand}), self.shelf.ask, demand)

    def test_unknown_names_in_demands(self):
        for demand, name in (
            (("d", ("all",)), "d"), (("alike", "d", "e"), "d"), (("alike", "a", "e"), "e"), (("within", "d", "a"), "d"),
            (("within", "e", "d"), "e"), (("shop", ("sure", ((0, 1),))), "shop"), (("alike", "e", "e"), "e"),
            (("d", ("like", "unknowns x")), "d"), (("bound", ("serves", (0,), 0)), "bound"),
        ):
            self.raised((UnknownName, {"given": name}), self.shelf.ask, demand)

    def test_broken_demands(self):
        for demand in (("b", ("all",)), ("a", ("serves", (2, 1), 3)), ("c", ("sure", ((5, 1),))), ("alike", "a", "b"),
                       ("within", "a", "b"), ("alike", "a", "c"), ("within", "c", "a"), ("a", ("like", str(TIGHT))),
                       ("a", ("serves", (0,), 0)), ("c", ("like", SHOP_TEXT)), ("b", ("serves", (0, 0), 10 ** 6))):
            self.raised((Broken, {"index": 3}), self.shelf.ask, demand)

    def test_broken_by_putting(self):
        for name, system, index in (("a", TIGHT, 1), ("a", NONE, 1), ("a", LINE, 0), ("b", NONE, 2), ("b", LINE, 0),
                                    ("b", System(("x", "y")), 0), ("a", System(("x", "y"), (NEED,)), None),
                                    ("c", NONE, None), ("new", NONE, None)):
            told = self.done_alike(self.shelf, self.kept, "put", (name, system))
            self.assertEqual(told, None if index is None else (Broken, {"index": index}))

    def test_indexes(self):
        for value in odd_values() + [3, 4, -1, -3, 10 ** 39, True, False, None, "0", (0,), [0]]:
            if value.__class__ is int and 0 <= value < 3:
                continue
            self.raised((InvalidIndex, {"given": value}), self.shelf.lift, value)
            self.raised((InvalidIndex, {"given": value}), self.shelf.lift, index=value)
        self.raised((InvalidIndex, {"given": 0}), Shelf().lift, 0)


class Trials(Shelves):
    def setUp(self):
        self.shelf, self.kept = Shelf(), Kept()
        for word, passed in (("put", ("a", SHOP)), ("ask", (("a", ("all",)),)), ("put", ("b", TIGHT))):
            self.done_alike(self.shelf, self.kept, word, passed)

    def all_undone(self):
        """What was done ahead of the trial can be taken back, and nothing else."""
        self.stands(self.shelf, self.kept)
        while len(self.kept.all) > 1:
            self.done_alike(self.shelf, self.kept, "undo", ())
        self.raised((NothingToUndo, {}), self.shelf.undo)

    def test_ends_well(self):
        with self.shelf.trial() as held:
            self.assertIs(held, self.shelf)
            self.done_alike(held, self.kept, "put", ("c", LINE))
            self.done_alike(held, self.kept, "lift", (0,))
        self.assertEqual(self.shelf.changes, 5)
        self.all_undone()

    def test_ends_with_an_exception_of_any_kind(self):
        for error in (KeyError("a"), KeyboardInterrupt(), SystemExit(1), GeneratorExit(), StopIteration(), Broken(3),
                      InvalidName("x"), NothingToUndo(), BaseException()):
            with self.assertRaises(error.__class__) as caught:
                with self.shelf.trial() as held:
                    held["c"] = LINE
                    held.ask(("c", ("all",)))
                    held.lift(0)
                    held.remove("a")
                    held.undo()
                    raise error
            self.assertIs(caught.exception, error)
            self.stands(self.shelf, self.kept)
        self.all_undone()

    def test_undo_behind_the_beginning(self):
        with self.assertRaises(KeyError):
            with self.shelf.trial():
                for _ in range(3):
                    self.shelf.undo()
                self.raised((NothingToUndo, {}), self.shelf.undo)
                self.assertEqual([self.shelf.changes, self.shelf.names, self.shelf.demands], [0, (), ()])
                self.shelf["z"] = LINE
                raise KeyError
        self.stands(self.shelf, self.kept)
        with self.shelf.trial():
            self.done_alike(self.shelf, self.kept, "undo", ())
        self.all_undone()

    def test_call_alone_changes_nothing(self):
        trial = self.shelf.trial()
        self.stands(self.shelf, self.kept)
        self.done_alike(self.shelf, self.kept, "put", ("c", LINE))
        with self.assertRaises(KeyError), trial:
            self.shelf.remove("c")
            raise KeyError
        self.all_undone()

    def test_tried(self):
        def right(shelf):
            self.assertIs(shelf, self.shelf)
            shelf["c"] = LINE
            return (shelf, 1)

        def wrong(shelf):
            shelf["d"] = LINE
            shelf.remove("d")
            shelf.undo()
            shelf.ask(("c", ("sure", ((9, 1),))))

        self.kept.put("c", LINE)
        self.assertEqual(self.shelf.tried(right), (self.shelf, 1))
        self.stands(self.shelf, self.kept)
        self.raised((Broken, {"index": 1}), self.shelf.tried, wrong)
        self.stands(self.shelf, self.kept)
        self.assertIsNone(self.shelf.tried(lambda shelf: shelf.undo()))
        self.kept.undo()
        self.assertEqual(self.shelf.tried(lambda shelf: shelf.tried(len)), 2)
        self.all_undone()

    def test_long_rows_of_deeds_in_trials(self):
        class Stop(Exception):
            pass

        def run(dice, shelf, kept, again, depth):
            for _ in range(dice.throw(1, 9)):
                self.done_alike(shelf, kept, *thrown_deed(dice, kept))
                if depth < 3 and dice.throw(0, 3) == 0:
                    attempt(dice, shelf, kept, again, depth + 1)

        def attempt(dice, shelf, kept, again, depth):
            before, fails = list(kept.all), dice.throw(0, 1)
            try:
                with dice.pick((shelf.trial(), again)):
                    run(dice, shelf, kept, again, depth)
                    if fails:
                        raise Stop
            except Stop:
                kept.all = before
            self.stands(shelf, kept)

        for seed in range(10):
            shelf, kept = Shelf(), Kept()
            again = shelf.trial()
            for times in range(8):
                run(Dice(seed * 100 + times), shelf, kept, again, 0)
            while len(kept.all) > 1:
                self.done_alike(shelf, kept, "undo", ())
            self.raised((NothingToUndo, {}), shelf.undo)
