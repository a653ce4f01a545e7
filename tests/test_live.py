"""Desks: rows put, narrowed, dropped and taken back, against a list that the test keeps by itself."""

import inspect

from commonanswer.errors import InvalidName, InvalidRow, InvalidStretch, InvalidUnknowns, NothingToUndo
from commonanswer.live import Desk
from commonanswer.systems import System
from tests.raising import Raising
from tests.reckoning import UNKNOWNS, Dice, narrow, pieces, wide
from tests.samples import MORE, NEED, ROOM, STRETCHES_WRONG, Harsh, Same, odd_values, row_called

WIDE = ("room", ((1, 1), (0, 1)), (3, 5))
NAMES = ("a", "b", "c", "d", "e", "f", "g", "bound", "x")


class Kept:
    """The rows of a desk as the test keeps them: a list of lists of rows, the last one those there are now."""

    def __init__(self, unknowns):
        self.unknowns = unknowns
        self.all = [[]]

    def system(self):
        return System(self.unknowns, tuple(self.all[-1]))

    def put(self, row):
        rows = self.all[-1]
        if len(rows) == 6 or row[0] in [own[0] for own in rows]:
            return (InvalidRow, {"given": row})
        self.all.append(rows + [row])
        return None

    def narrow(self, name, place, stretch):
        rows = list(self.all[-1])
        if name not in [own[0] for own in rows]:
            return (InvalidName, {"given": name})
        if place not in (*self.unknowns, "bound"):
            return (InvalidName, {"given": place})
        at = [own[0] for own in rows].index(name)
        _, stretches, bound = rows[at]
        parts = dict(zip((*self.unknowns, "bound"), (*stretches, bound)))
        if not parts[place][0] <= stretch[0] <= stretch[1] <= parts[place][1]:
            return (InvalidStretch, {"given": stretch})
        parts[place] = stretch
        *stretches, bound = parts.values()
        rows[at] = (name, tuple(stretches), bound)
        self.all.append(rows)
        return None

    def drop(self, name):
        rows = self.all[-1]
        if name not in [own[0] for own in rows]:
            return (InvalidName, {"given": name})
        self.all.append([own for own in rows if own[0] != name])
        return None

    def undo(self):
        if len(self.all) == 1:
            return (NothingToUndo, {})
        self.all.pop()
        return None


def thrown_deed(dice, kept):
    """The name of a method and what it is passed, right or not."""
    word = dice.pick(("put", "put", "put", "narrow", "narrow", "drop", "undo", "undo"))
    name = dice.pick(NAMES)
    if word == "put":
        many = len(kept.unknowns)
        return word, ((name, tuple([dice.pick((wide, narrow))(dice, 4) for _ in range(many)]), wide(dice, 4)),)
    if word == "narrow":
        return word, (name, dice.pick((*kept.unknowns, "bound", "bound", "q")), narrow(dice, 3))
    return word, ((name,) if word == "drop" else ())


class Desks(Raising):
    def stands(self, desk, system):
        """The desk has just the rows of this system."""
        self.assertEqual(desk.system, system)
        self.assertEqual([desk.system.unknowns, desk.system.rows], [system.unknowns, system.rows])
        self.assertEqual(len(desk), len(system))
        self.assertIs(desk.served, bool(pieces(system.rows, len(system.unknowns), True)))

    def done_alike(self, desk, kept, word, passed):
        """The deed is done, or raises its error, at the desk as in what the test keeps."""
        told = getattr(kept, word)(*passed)
        if told is None:
            self.assertIsNone(getattr(desk, word)(*passed))
        else:
            self.raised(told, getattr(desk, word), *passed)
        self.stands(desk, kept.system())
        return told


class Deeds(Desks):
    def test_long_rows_of_deeds(self):
        done, errors = 0, {}
        for seed in range(24):
            dice = Dice(seed)
            unknowns = UNKNOWNS[:1 + seed % 3]
            desk, kept = Desk(unknowns), Kept(unknowns)
            self.stands(desk, System(unknowns))
            for _ in range(120):
                told = self.done_alike(desk, kept, *thrown_deed(dice, kept))
                done += told is None
                if told is not None:
                    errors[told[0]] = errors.get(told[0], 0) + 1
            while len(kept.all) > 1:
                self.done_alike(desk, kept, "undo", ())
            self.raised((NothingToUndo, {}), desk.undo)
            self.stands(desk, System(unknowns))
        self.assertGreater(done, 1000)
        self.assertTrue(all(errors.get(kind, 0) > 20 for kind in (InvalidRow, InvalidName, InvalidStretch)), errors)

    def test_by_name(self):
        desk = Desk(unknowns=("x", "y"))
        self.assertIsNone(desk.put(row=WIDE))
        self.assertIsNone(desk.narrow(stretch=(4, 5), place="bound", name="room"))
        self.assertIsNone(desk.narrow("room", stretch=(1, 1), place="y"))
        self.assertEqual(desk.system.rows, (("room", ((1, 1), (1, 1)), (4, 5)),))
        self.assertIsNone(desk.drop(name="room"))
        self.assertEqual(desk.tried(action=len), 0)
        for name, places in (("put", ["row"]), ("narrow", ["name", "place", "stretch"]), ("drop", ["name"]), ("undo", []),
                             ("trial", []), ("tried", ["action"])):
            self.assertEqual(list(inspect.signature(getattr(desk, name)).parameters), places)
            self.assertIn(name, vars(Desk))
        self.assertIsInstance(vars(Desk)["system"], property)
        self.assertIsInstance(vars(Desk)["served"], property)

    def test_put_up_to_six(self):
        desk = Desk(("x",))
        for name in "abcdef":
            desk.put(row_called(name))
        seventh = row_called("g")
        for row in (seventh, row_called("a"), row_called("f")):
            self.raised((InvalidRow, {"given": row}), desk.put, row)
        desk.drop("c")
        desk.put(seventh)
        self.assertEqual(desk.system.names, ("a", "b", "d", "e", "f", "g"))
        desk.undo()
        self.assertEqual(desk.system.names, ("a", "b", "d", "e", "f"))
        desk.undo()
        self.assertEqual(desk.system.names, ("a", "b", "c", "d", "e", "f"))

    def test_narrow(self):
        desk = Desk(("x", "y"))
        for row in (NEED, WIDE, MORE):
            desk.put(row)
        for stretch in ((3, 5), (3, 4), (4, 4), (4, 4)):
            self.assertIsNone(desk.narrow("room", "bound", stretch))
            self.assertEqual(desk.system.rows, (NEED, (*WIDE[:2], stretch), MORE))
        for stretch in ((3, 4), (4, 5), (3, 3), (5, 5), (3, 5), (-10000, 10000)):
            self.raised((InvalidStretch, {"given": stretch}), desk.narrow, "room", "bound", stretch)
        desk.narrow("room", "y", (1, 1))
        desk.narrow("need", "x", (-2, -2))
        self.assertEqual(desk.system.rows[0], ("need", ((-2, -2), (-1, -1)), (-4, -3)))
        self.assertEqual(desk.system.rows[1], ("room", ((1, 1), (1, 1)), (4, 4)))
        for _ in range(6):
            desk.undo()
        self.assertEqual(desk.system.rows, (NEED, WIDE, MORE))

    def test_rows_called_like_places(self):
        desk = Desk(("x", "row"))
        desk.put(("bound", ((0, 9), (0, 9)), (0, 9)))
        desk.put(("x", ((0, 9), (0, 9)), (0, 9)))
        desk.narrow("bound", "bound", (1, 2))
        desk.narrow("x", "row", (3, 4))
        desk.narrow("bound", "x", (5, 6))
        self.assertEqual(desk.system.rows, (("bound", ((5, 6), (0, 9)), (1, 2)), ("x", ((0, 9), (3, 4)), (0, 9))))
        self.raised((InvalidName, {"given": "row"}), desk.narrow, "row", "x", (5, 6))
        self.raised((InvalidName, {"given": "row"}), desk.drop, "row")

    def test_two_desks_do_not_touch_each_other(self):
        one, other = Desk(("x", "y")), Desk(("x", "y"))
        one.put(NEED)
        self.stands(other, System(("x", "y")))
        self.raised((NothingToUndo, {}), other.undo)
        other.put(ROOM)
        one.undo()
        self.stands(other, System(("x", "y"), (ROOM,)))
        with self.assertRaises(KeyError), one.trial():
            one.put(MORE)
            other.put(MORE)
            raise KeyError
        self.stands(one, System(("x", "y")))
        self.stands(other, System(("x", "y"), (ROOM, MORE)))

    def test_systems_stay_as_they_were(self):
        desk = Desk(("x", "y"))
        desk.put(NEED)
        before = desk.system
        desk.narrow("need", "x", (-1, -1))
        desk.put(ROOM)
        desk.drop("need")
        self.assertEqual([before.rows, desk.system.rows], [(NEED,), (ROOM,)])
        self.assertEqual([desk.system, desk.served, desk.system], [System(("x", "y"), (ROOM,)), True, desk.system])

    def test_same_in_the_same_condition(self):
        one, other = Desk(("x", "y")), Desk(("x", "y"))
        for row in (NEED, WIDE):
            one.put(row)
        other.put(MORE)
        other.put(NEED)
        other.put(WIDE)
        other.drop("more")
        for stretch in ((3, 4), (4, 4)):
            told = [(desk.system, desk.served, len(desk)) for desk in (one, other, one)]
            self.assertEqual(told[1:], told[:1] * 2)
            for desk in (one, other):
                desk.narrow("room", "bound", stretch)
                self.raised((InvalidRow, {"given": NEED}), desk.put, NEED)
        self.assertEqual([one.system, one.served], [other.system, True])

    def test_equal_to_itself_alone_and_true(self):
        one, other = Desk(("x",)), Desk(("x",))
        self.assertTrue(one == one)
        self.assertFalse(one != one)
        self.assertFalse(one == other)
        self.assertTrue(one != other)
        for value in odd_values() + [one.system, ("x",), one.trial()]:
            self.assertIs(one == value, False)
            self.assertIs(one != value, True)
        self.assertTrue(one and other.trial())
        self.assertEqual([one, other].index(other), 1)

    def test_example(self):
        desk = Desk(("x", "y"))
        desk.put(NEED)
        desk.put(("room", ((1, 1), (0, 1)), (3, 5)))
        desk.put(MORE)
        desk.narrow("room", "bound", (4, 5))
        self.assertEqual([len(desk), desk.served, desk.system.rows[1][2]], [3, True, (4, 5)])
        with self.assertRaises(InvalidStretch) as caught:
            desk.narrow("room", "bound", (3, 5))
        self.assertEqual(caught.exception.given, (3, 5))


class Errors(Desks):
    def setUp(self):
        self.desk = Desk(("x", "y"))
        self.desk.put(NEED)
        self.desk.put(WIDE)

    def tearDown(self):
        self.stands(self.desk, System(("x", "y"), (NEED, WIDE)))
        self.desk.undo()
        self.desk.undo()
        self.raised((NothingToUndo, {}), self.desk.undo)

    def test_unknowns(self):
        for value, index in (((), None), (["x"], None), ("x", None), (None, None), (("x", "x"), 1), (("x", "bound"), 1),
                             (("x", "y", "z", "w"), 3), ((0,), 0), (("X",), 0), (("x", Same()), 1), ((Harsh(),), 0)):
            self.raised((InvalidUnknowns, {"index": index}), Desk, value)

    def test_rows(self):
        for value in odd_values() + [
            NEED, WIDE, ("room", ((1, 1), (0, 1)), (4, 5)), ("a", ((1, 1),), (0, 0)), ("a", ((1, 1),) * 3, (0, 0)), [*MORE],
            ("a", ((1, 1), (1, 0)), (0, 0)), ("a", ((1, 1), (1, 1)), (0, 10001)), ("A", ((1, 1), (1, 1)), (0, 0)), "more",
            ("a", ((1, 1), (1, 1))), ("a", ((1, 1), (1, 1)), (0, 0), 0), (MORE,), ("a", [(1, 1), (1, 1)], (0, 0)),
        ]:
            self.raised((InvalidRow, {"given": value}), self.desk.put, value)
            self.raised((InvalidRow, {"given": value}), self.desk.put, row=value)

    def test_names_of_rows(self):
        for value in odd_values() + ["x", "y", "bound", "more", "needs", "nee", "NEED", " need", ("need",), ["need"], 0, 1]:
            self.raised((InvalidName, {"given": value}), self.desk.drop, value)
            self.raised((InvalidName, {"given": value}), self.desk.drop, name=value)
            for place, stretch in (("bound", (-4, -4)), ("z", None), (None, [])):
                self.raised((InvalidName, {"given": value}), self.desk.narrow, value, place, stretch)

    def test_places(self):
        for value in odd_values() + ["z", "need", "room", "bounds", "Bound", "X", ("x",), ["bound"], 0, 1, 2, -1]:
            for stretch in ((-4, -4), None, []):
                self.raised((InvalidName, {"given": value}), self.desk.narrow, "need", value, stretch)
                self.raised((InvalidName, {"given": value}), self.desk.narrow, name="need", place=value, stretch=stretch)

    def test_stretches(self):
        for value in odd_values() + STRETCHES_WRONG + [(-5, -3), (-4, -2), (-5, -2), (0, 0), (-6, -5), [-4, -4], -4]:
            self.raised((InvalidStretch, {"given": value}), self.desk.narrow, "need", "bound", value)
        for value in ((0, 0), (2, 2), (0, 2), (1, 2), (True, True), [1, 1]):
            self.raised((InvalidStretch, {"given": value}), self.desk.narrow, "room", "x", value)


class Trials(Desks):
    def setUp(self):
        self.desk = Desk(("x", "y"))
        self.desk.put(NEED)
        self.desk.put(WIDE)
        self.before = System(("x", "y"), (NEED, WIDE))

    def undone(self, *systems):
        """What is taken back leads to these systems, and then there is nothing more."""
        for system in systems:
            self.assertIsNone(self.desk.undo())
            self.stands(self.desk, system)
        self.raised((NothingToUndo, {}), self.desk.undo)

    def all_undone(self):
        """What was done ahead of the trial can be taken back, and nothing else."""
        self.stands(self.desk, self.before)
        self.undone(System(("x", "y"), (NEED,)), System(("x", "y")))

    def test_ends_well(self):
        with self.desk.trial() as held:
            self.assertIs(held, self.desk)
            held.put(MORE)
            held.drop("need")
        self.stands(self.desk, System(("x", "y"), (WIDE, MORE)))
        self.undone(self.before.more(MORE), self.before, self.before.without(1), System(("x", "y")))

    def test_ends_with_an_exception_of_any_kind(self):
        for error in (KeyError("a"), ValueError(), KeyboardInterrupt(), SystemExit(1), GeneratorExit(), StopIteration(),
                      AssertionError(), InvalidName("x"), NothingToUndo(), BaseException(), Exception()):
            with self.assertRaises(error.__class__) as caught:
                with self.desk.trial() as held:
                    held.put(MORE)
                    held.narrow("room", "bound", (4, 4))
                    held.drop("need")
                    held.undo()
                    raise error
            self.assertIs(caught.exception, error)
            self.stands(self.desk, self.before)
        self.all_undone()

    def test_errors_of_the_desk(self):
        with self.assertRaises(InvalidRow):
            with self.desk.trial():
                self.desk.put(MORE)
                self.desk.put(MORE)
        self.all_undone()

    def test_caught_within(self):
        with self.desk.trial():
            self.desk.put(MORE)
            with self.assertRaises(InvalidRow):
                self.desk.put(MORE)
        self.stands(self.desk, self.before.more(MORE))

    def test_call_alone_changes_nothing(self):
        trial = self.desk.trial()
        self.stands(self.desk, self.before)
        self.desk.put(MORE)
        with self.assertRaises(KeyError):
            with trial:
                self.desk.drop("more")
                raise KeyError
        self.stands(self.desk, self.before.more(MORE))
        self.desk.undo()
        self.all_undone()

    def test_undo_behind_the_beginning(self):
        with self.assertRaises(KeyError):
            with self.desk.trial():
                self.desk.put(MORE)
                for _ in range(3):
                    self.desk.undo()
                self.raised((NothingToUndo, {}), self.desk.undo)
                self.stands(self.desk, System(("x", "y")))
                self.desk.put(ROOM)
                raise KeyError
        self.stands(self.desk, self.before)
        with self.desk.trial():
            self.desk.undo()
        self.stands(self.desk, System(("x", "y"), (NEED,)))
        self.undone(System(("x", "y")))

    def test_trials_within_trials(self):
        with self.assertRaises(KeyError):
            with self.desk.trial():
                self.desk.put(MORE)
                with self.assertRaises(ValueError):
                    with self.desk.trial():
                        self.desk.undo()
                        self.desk.undo()
                        self.desk.put(ROOM)
                        raise ValueError
                self.stands(self.desk, self.before.more(MORE))
                with self.desk.trial():
                    self.desk.drop("room")
                self.stands(self.desk, System(("x", "y"), (NEED, MORE)))
                raise KeyError
        self.all_undone()

    def test_one_object_within_itself_and_again(self):
        trial = self.desk.trial()
        with self.assertRaises(KeyError):
            with trial:
                self.desk.put(MORE)
                with self.assertRaises(ValueError):
                    with trial as held:
                        held.drop("need")
                        with trial:
                            held.drop("room")
                        self.stands(self.desk, System(("x", "y"), (MORE,)))
                        raise ValueError
                self.stands(self.desk, self.before.more(MORE))
                with trial:
                    self.desk.drop("more")
                self.desk.drop("need")
                raise KeyError
        self.stands(self.desk, self.before)
        with trial:
            self.desk.undo()
        with self.assertRaises(KeyError), trial:
            self.desk.undo()
            raise KeyError
        self.stands(self.desk, System(("x", "y"), (NEED,)))
        self.undone(System(("x", "y")))

    def test_trials_that_end_in_another_order(self):
        def steps():
            with self.desk.trial():
                self.desk.put(MORE)
                yield

        held = steps()
        next(held)
        with self.assertRaises(KeyError), self.desk.trial():
            self.desk.drop("need")
            held.close()
            self.stands(self.desk, self.before)
            self.desk.drop("room")
            raise KeyError
        self.stands(self.desk, self.before.more(MORE))

    def test_tried(self):
        def right(desk):
            self.assertIs(desk, self.desk)
            desk.put(MORE)
            return [desk, 1]

        def wrong(desk):
            desk.drop("need")
            desk.undo()
            desk.undo()
            raise KeyError("b")

        told = self.desk.tried(right)
        self.assertIs(told[0], self.desk)
        self.assertEqual(told[1], 1)
        self.stands(self.desk, self.before.more(MORE))
        with self.assertRaises(KeyError) as caught:
            self.desk.tried(wrong)
        self.assertEqual(caught.exception.args, ("b",))
        self.stands(self.desk, self.before.more(MORE))
        self.assertIsNone(self.desk.tried(lambda desk: desk.undo()))
        self.assertEqual(self.desk.tried(lambda desk: desk.tried(len)), 2)
        self.all_undone()

    def test_long_rows_of_deeds_in_trials(self):
        class Stop(Exception):
            pass

        def run(dice, desk, kept, again, depth):
            for _ in range(dice.throw(1, 9)):
                self.done_alike(desk, kept, *thrown_deed(dice, kept))
                if depth < 3 and dice.throw(0, 3) == 0:
                    attempt(dice, desk, kept, again, depth + 1)

        def attempt(dice, desk, kept, again, depth):
            before, fails = list(kept.all), dice.throw(0, 1)
            try:
                with dice.pick((desk.trial(), again)):
                    run(dice, desk, kept, again, depth)
                    if fails:
                        raise Stop
            except Stop:
                kept.all = before
            self.stands(desk, kept.system())

        for seed in range(12):
            unknowns = UNKNOWNS[:1 + seed % 2]
            desk, kept = Desk(unknowns), Kept(unknowns)
            again = desk.trial()
            for _ in range(12):
                run(Dice(seed * 100 + len(kept.all)), desk, kept, again, 0)
            while len(kept.all) > 1:
                self.done_alike(desk, kept, "undo", ())
            self.raised((NothingToUndo, {}), desk.undo)
