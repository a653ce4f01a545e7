"""[14] Changes that mend: all least sets of them, against all sets tried one by one."""

import unittest
from itertools import combinations

from commonanswer.errors import InvalidChanges, InvalidDemands, NotASystem
from commonanswer.mends import holds, mends
from commonanswer.systems import System
from tests.reckoning import NAMES, Dice, answer_at, fraction, narrow, pieces, systems, wide
from tests.samples import FOUR, SHOP, SHOP_TEXT, STRETCHES_WRONG, THREE, TIGHT, odd_values

LOOSE = ("room", "bound", (4, 4))
SLACK = ("need", "bound", (-3, -3))


def is_stretch(value):
    """Whether a value is a stretch."""
    if value.__class__ is not tuple or [end.__class__ for end in value] != [int, int]:
        return False
    return -10000 <= value[0] <= value[1] <= 10000


def with_stretch(row, unknowns, place, stretch):
    """A row with another stretch in a place."""
    name, stretches, bound = row
    if place == "bound":
        return (name, stretches, stretch)
    return (name, tuple([stretch if own == place else old for own, old in zip(unknowns, stretches)]), bound)


def behind(system, changes):
    """The system with all of these changes at once, None if there is none."""
    if len({(row, place) for row, place, _ in changes}) < len(changes):
        return None
    rows = list(system.rows)
    for name, place, value in changes:
        if not is_stretch(value):
            return None
        at = system.names.index(name)
        rows[at] = with_stretch(rows[at], system.unknowns, place, value)
    return System(system.unknowns, tuple(rows))


def expected(system, demands, changes):
    """All least sets of changes that mend, by trying all sets one by one."""
    mending = {}
    for size in range(len(changes) + 1):
        for part in combinations(range(len(changes)), size):
            changed = behind(system, [changes[at] for at in part])
            if changed is not None and all(holds(changed, demand) for demand in demands):
                mending[part] = True
    return tuple([part for part in mending if not any(set(own) < set(part) for own in mending)])


def thrown_changes(dice, system, many):
    """So many changes, some of which give no system, or stand twice in the same place."""
    changes = []
    while len(changes) < many and len(system) > 0:
        place = dice.pick((*system.unknowns, "bound", "bound"))
        value = dice.pick((wide, narrow, narrow))(dice, dice.pick((3, 9, 9000)))
        if dice.throw(0, 9) == 0:
            value = dice.pick([own for own in STRETCHES_WRONG if isinstance(own, tuple)][:9])
        changes.append((dice.pick(system.names), place, value))
    return tuple(changes)


def thrown_demand(dice, system, changes):
    """A demand of any form on a system, or on one behind some of these changes."""
    many = len(system.unknowns)
    other = behind(system, [change for change in changes if dice.throw(0, 2) > 0]) or system
    corners = [answer_at(point) for points, _ in pieces(other.rows, many, True) for point in points]
    return dice.pick((
        ("all",), ("all",), ("some",), ("like", str(other)), ("like", str(other)), ("like", str(system)),
        ("sure", dice.pick(corners) if corners else ((0, 1),) * many),
        ("serves", tuple([dice.throw(-2, 2) for _ in range(many)]), dice.throw(-9, 9)),
        ("sure", tuple([fraction(dice.throw(-5, 5), dice.throw(1, 3)) for _ in range(many)])),
    ))


class Mends(unittest.TestCase):
    def told_rightly(self, system, demands, changes):
        """The least sets are those that all sets tried one by one tell, in their order."""
        told = mends(system, demands, changes)
        self.assertEqual(told, expected(system, demands, changes))
        self.assertEqual(list(told), sorted(told, key=lambda part: (len(part), part)))
        self.assertEqual({part.__class__ for part in told} | {told.__class__}, {tuple})
        return told

    def test_against_all_sets(self):
        sizes = {}
        for seed, system in enumerate(systems(51)):
            dice = Dice(seed)
            for many in (1, 3, 4, 5, 5):
                changes = thrown_changes(dice, system, many)
                demands = tuple([thrown_demand(dice, system, changes) for _ in range(dice.pick((0, 1, 1, 1, 1, 2, 5)))])
                for part in self.told_rightly(system, demands, changes):
                    sizes[len(part)] = sizes.get(len(part), 0) + 1
        self.assertTrue(all(sizes.get(size, 0) > 5 for size in (0, 1, 2)), sizes)

    def test_sets_of_all_sizes(self):
        rows = tuple([(name, ((0, 0),), (-1, -1)) for name in NAMES[:5]])
        system = System(("x",), rows)
        changes = tuple([(name, "bound", (0, 0)) for name in NAMES[:5]])
        self.assertEqual(self.told_rightly(system, (("some",),), changes), ((0, 1, 2, 3, 4),))
        for many in range(5):
            self.assertEqual(self.told_rightly(system, (("some",),), changes[:many]), ())
            short = System(("x",), rows[:many])
            self.assertEqual(self.told_rightly(short, (("all",),), changes[:many]), (tuple(range(many)),))

    def test_least_sets_of_unlike_sizes(self):
        rows = (("a", ((0, 0),), (-1, -1)), ("b", ((1, 1),), (0, 0)), ("c", ((-1, -1),), (-2, -2)))
        system = System(("x",), rows)
        changes = (("b", "bound", (2, 2)), ("a", "x", (-1, -1)), ("c", "bound", (0, 0)), ("a", "bound", (0, 0)),
                   ("b", "x", (0, 0)))
        self.assertEqual(self.told_rightly(system, (("all",),), changes), ((0, 1), (0, 3), (1, 4), (2, 3), (3, 4)))

    def test_sets_that_are_not_mended_by_more(self):
        system = System(("x",), (("a", ((1, 1),), (0, 0)), ("b", ((-1, -1),), (0, 0))))
        back = ("b", "bound", (-1, -1))
        changes = (("a", "bound", (1, 1)), back, ("a", "bound", (2, 2)))
        one = (("sure", ((1, 1),)),)
        self.assertEqual(self.told_rightly(system, one, changes), ((0,), (2,)))
        self.assertEqual(self.told_rightly(system, (*one, ("like", str(system.changed(changes[0])))), changes), ((0,),))
        both = system.changed(changes[0]).changed(back)
        self.assertEqual(self.told_rightly(system, (("like", str(both)),), changes), ((0, 1),))
        self.assertEqual(self.told_rightly(system, (("like", str(system)),), changes), ((),))

    def test_empty_set_where_all_holds(self):
        for demands in ((), (("all",),), (("all",), ("some",), ("serves", (2, 1), 4), ("sure", FOUR), ("like", SHOP_TEXT))):
            for changes in ((), (LOOSE,), (LOOSE, LOOSE, SLACK, ("need", "x", None), ("room", "bound", (9, 1)))):
                self.assertEqual(self.told_rightly(SHOP, demands, changes), ((),))
        self.assertEqual(mends(System(("x",)), (), ()), ((),))
        self.assertEqual(mends(TIGHT, (("all",),), ()), ())

    def test_same_row_and_place_twice(self):
        system = TIGHT.changed(("need", "bound", (-6, -4)))
        low, high = ("room", "bound", (5, 5)), ("need", "bound", (-5, -3))
        for changes in ((low, low, high), (low, ("room", "bound", (4, 4)), high), (high, high, high, low, low)):
            told = self.told_rightly(system, (("all",),), changes)
            self.assertTrue(all(changes[a][:2] != changes[b][:2] for part in told for a, b in combinations(part, 2)))
        self.assertEqual(mends(TIGHT, (("all",),), (LOOSE, LOOSE, SLACK)), ((0,), (1,), (2,)))
        self.assertEqual(mends(system, (("all",),), (low, low, high)), ((0, 2), (1, 2)))
        # Each of both would mend together with the other one, if they did not speak of the same place.
        rows = (("a", ((0, 0),), (-1, -1)), ("b", ((0, 0),), (-1, -1)))
        self.assertEqual(mends(System(("x",), rows), (("some",),), (("a", "bound", (0, 0)), ("a", "bound", (1, 1)))), ())

    def test_values_that_give_no_system(self):
        for value in STRETCHES_WRONG + odd_values():
            changes = (("room", "bound", value), ("need", "x", value), SLACK)
            self.assertEqual(mends(TIGHT, (("all",),), changes), ((2,),))
            self.assertEqual(mends(TIGHT, (), changes), ((),))
            self.assertEqual(mends(TIGHT, (("all",),), changes[:2]), ())
        for value in ((10000, 10000), (-10000, 10000), (4, 10000)):
            self.assertEqual(mends(TIGHT, (("all",),), (("room", "bound", value),)), ((0,),) if value[0] > 3 else ())

    def test_rows_called_like_places(self):
        system = System(("x", "row"), (("bound", ((0, 0), (0, 0)), (-1, 0)), ("x", ((0, 0), (1, 1)), (-1, -1))))
        changes = (("bound", "bound", (0, 0)), ("x", "bound", (0, 1)), ("bound", "x", (0, 1)), ("x", "row", (0, 0)))
        self.assertEqual(self.told_rightly(system, (("all",),), changes), ((0,),))
        self.assertEqual(self.told_rightly(system, (("sure", ((0, 1), (0, 1))),), changes), ((0, 1),))
        self.assertEqual(self.told_rightly(system, (("sure", ((-1, 1), (0, 1))),), changes[1:]), ())

    def test_systems_stay_as_they_were(self):
        self.assertEqual(mends(TIGHT, (("all",),), (LOOSE, SLACK)), ((0,), (1,)))
        self.assertEqual(str(TIGHT), SHOP_TEXT.replace("0 1 5 5", "0 1 3 5"))
        self.assertEqual(mends(TIGHT, (("all",),), (LOOSE, SLACK)), ((0,), (1,)))

    def test_example(self):
        changes = (LOOSE, ("need", "x", (-2, -2)), SLACK, ("room", "bound", (9, 1)))
        self.assertEqual(mends(TIGHT, (("all",),), changes), ((0,), (1,), (2,)))


class Errors(unittest.TestCase):
    def told(self, kind, *passed):
        """The index that an error of this class tells."""
        with self.assertRaises(kind) as caught:
            mends(*passed)
        self.assertIs(caught.exception.__class__, kind)
        return caught.exception.index

    def test_no_tuples(self):
        for value in odd_values() + [[], [("all",)], {}, "", "all"]:
            if not isinstance(value, tuple):
                self.assertIsNone(self.told(InvalidDemands, SHOP, value, ()))
                self.assertIsNone(self.told(InvalidChanges, SHOP, (), value))

    def test_sixth_ones(self):
        five, changes = (("all",), ("some",)) * 3, (LOOSE, SLACK) * 3
        self.assertEqual(mends(SHOP, five[:5], changes[:5]), ((),))
        for more in (five, five + (None,), five * 9, five[:5] + (None,)):
            self.assertEqual(self.told(InvalidDemands, SHOP, more, changes), 5)
        for more in (changes, changes + (None,), changes * 9, changes[:5] + (None,)):
            self.assertEqual(self.told(InvalidChanges, SHOP, five[:5], more), 5)

    def test_first_wrong_ones(self):
        for at in range(5):
            for value in (None, [], (), ("all", ()), "all", ("serves", (1,), 0), ("sure", FOUR[:1]), ("like", "unknowns x")):
                demands = (("all",), ("sure", THREE), ("like", SHOP_TEXT)) * 2
                self.assertEqual(self.told(InvalidDemands, SHOP, demands[:at] + (value,), ()), at)
                self.assertEqual(self.told(InvalidDemands, SHOP, demands[:at] + (value,) * 9, None), at)
            for value in (None, [], (), LOOSE[:2], LOOSE + LOOSE, [*LOOSE], ("nope", *LOOSE[1:]), ("room", "z", (4, 4))):
                self.assertEqual(self.told(InvalidChanges, SHOP, (), ((LOOSE, SLACK) * 3)[:at] + (value,)), at)
                self.assertEqual(self.told(InvalidChanges, SHOP, (), ((LOOSE, SLACK) * 3)[:at] + (value,) * 9), at)

    def test_names_and_places_of_this_system(self):
        other = System(("z",), (("room", ((0, 0),), (0, 0)),))
        self.assertEqual(mends(other, (), (("room", "z", None), LOOSE)), ((),))
        self.assertEqual(self.told(InvalidChanges, other, (), (LOOSE, SLACK)), 1)
        self.assertEqual(self.told(InvalidChanges, other, (), (LOOSE, ("room", "x", (0, 0)))), 1)
        self.assertEqual(self.told(InvalidChanges, System(("x",)), (), (("bound", "x", (0, 0)),)), 0)
        self.assertEqual(self.told(InvalidDemands, other, (("all",), ("serves", (1, 1), 0)), ()), 1)

    def test_order_of_the_signature(self):
        for wrong in (None, [], (None,)):
            with self.assertRaises(NotASystem) as caught:
                mends(SHOP_TEXT, wrong, wrong)
            self.assertEqual(caught.exception.given, SHOP_TEXT)
            self.assertEqual(self.told(InvalidDemands, SHOP, wrong, wrong), 0 if wrong == (None,) else None)
            self.assertEqual(self.told(InvalidChanges, SHOP, (("all",),), wrong), 0 if wrong == (None,) else None)
