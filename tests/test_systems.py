"""[6] Systems: how they are made, what they tell, when they are equal, and which values give none."""

import unittest

from commonanswer.errors import InvalidRows, InvalidUnknowns
from commonanswer.systems import System
from tests.samples import (
    MORE, NEED, REST, ROOM, SHOP, SHOP_TEXT, STRETCHES_RIGHT, STRETCHES_WRONG, Harsh, Same, odd_values, row_called,
)

NAMES_RIGHT = ["a", "z", "x", "a1", "z9", "x0", "abcdefgh", "a1234567", "unknowns", "row", "rows", "boun", "bounds"]
NAMES_WRONG = [
    "", "abcdefghi", "a12345678", "1", "1a", "A", "aB", "X", "a_b", "_a", "a-b", "-a", "a b", " a", "a ", "a.", "a\n",
    "\na", "\n", "a`", "a{", "a/", "a:",
]


class SystemsTests(unittest.TestCase):
    def wrong_unknowns(self, unknowns, index):
        """Both ways to pass these unknowns raise InvalidUnknowns with this index, whatever the rows are."""
        for made in (
            lambda: System(unknowns),
            lambda: System(unknowns=unknowns),
            lambda: System(unknowns, None),
            lambda: System(rows=(row_called("a"),), unknowns=unknowns),
        ):
            with self.subTest(unknowns=unknowns), self.assertRaises(InvalidUnknowns) as caught:
                made()
            self.assertEqual(caught.exception.index, index)

    def wrong_rows(self, unknowns, rows, index):
        """Both ways to pass these rows raise InvalidRows with this index."""
        for made in (lambda: System(unknowns, rows), lambda: System(rows=rows, unknowns=unknowns)):
            with self.subTest(rows=rows), self.assertRaises(InvalidRows) as caught:
                made()
            self.assertEqual(caught.exception.index, index)


class Made(SystemsTests):
    def test_made_by_position_and_by_name(self):
        rows = (NEED, ROOM)
        for system in (
            System(("x", "y"), rows), System(("x", "y"), rows=rows), System(rows=rows, unknowns=("x", "y")),
        ):
            self.assertEqual(system.unknowns, ("x", "y"))
            self.assertEqual(system.rows, rows)
            self.assertEqual(system.names, ("need", "room"))
            self.assertEqual(len(system), 2)
            self.assertEqual(str(system), "unknowns x y\nrow need -2 -1 -1 -1 -4 -3\nrow room 1 1 0 1 5 5")

    def test_made_without_rows(self):
        for system in (System(("x",)), System(unknowns=("x",)), System(("x",), ()), System(("x",), rows=())):
            self.assertEqual(system.unknowns, ("x",))
            self.assertEqual(system.rows, ())
            self.assertEqual(system.names, ())
            self.assertEqual(len(system), 0)
            self.assertEqual(str(system), "unknowns x")
            self.assertIs(bool(system), True)

    def test_properties_are_as_they_were_passed(self):
        unknowns, rows = ("x", "y"), (NEED, ROOM)
        system = System(unknowns, rows)
        self.assertIs(system.unknowns, unknowns)
        self.assertIs(system.rows, rows)
        self.assertIs(system.names.__class__, tuple)

    def test_most_unknowns_and_rows(self):
        rows = tuple(row_called(name, 3) for name in ("a", "b", "c", "d", "e", "f"))
        system = System(("x", "y", "z"), rows)
        self.assertEqual([system.unknowns, system.names], [("x", "y", "z"), ("a", "b", "c", "d", "e", "f")])
        self.assertEqual(len(system), 6)
        self.assertEqual(str(system).split("\n")[6], "row f 0 0 0 0 0 0 0 0")

    def test_systems_never_change(self):
        for name in ("unknowns", "rows", "names"):
            with self.assertRaises(AttributeError):
                setattr(SHOP, name, ())
        self.assertEqual(str(SHOP), SHOP_TEXT)

    def test_listed_methods_are_defined_in_the_class(self):
        for name in ("__init__", "__len__", "__str__", "__eq__", "read", "unknowns", "rows", "names"):
            self.assertIn(name, vars(System))
        for name in ("changed", "without", "more"):
            self.assertIn(name, vars(System))
        self.assertEqual(System.__module__, "commonanswer.systems")

    def test_systems_are_true(self):
        for system in (System(("x",)), System(("x", "y", "z")), SHOP):
            self.assertIs(bool(system), True)

    def test_example_of_the_document(self):
        need, room = ("need", ((-2, -1), (-1, -1)), (-4, -3)), ("room", ((1, 1), (0, 1)), (5, 5))
        more, rest = ("more", ((-1, -1), (0, 0)), (0, 0)), ("rest", ((0, 0), (-1, -1)), (0, 0))
        shop = System(("x", "y"), (need, room, more, rest))
        self.assertEqual(
            [shop.names, len(shop), str(shop).split("\n")[1], shop == System.read(str(shop)), shop.without(0).names],
            [("need", "room", "more", "rest"), 4, "row need -2 -1 -1 -1 -4 -3", True, ("room", "more", "rest")],
        )
        tight = shop.changed(("room", "bound", (3, 5)))
        self.assertEqual(tight.rows[1], ("room", ((1, 1), (0, 1)), (3, 5)))


class Equality(SystemsTests):
    def test_equal_systems(self):
        again = System(("x", "y"), (NEED, ROOM, MORE, REST))
        self.assertIs(SHOP == again, True)
        self.assertIs(SHOP != again, False)
        self.assertIs(SHOP == SHOP, True)
        self.assertIs(SHOP != SHOP, False)
        self.assertIs(System(("x",)) == System(("x",), ()), True)

    def test_unequal_systems(self):
        others = [
            System(("x", "y")),
            System(("y", "x"), (NEED, ROOM, MORE, REST)),
            System(("x", "z"), (NEED, ROOM, MORE, REST)),
            System(("x", "y"), (NEED, ROOM, MORE)),
            System(("x", "y"), (ROOM, NEED, MORE, REST)),
            System(("x", "y"), (("needs", NEED[1], NEED[2]), ROOM, MORE, REST)),
            System(("x", "y"), (("need", NEED[1], (-4, -2)), ROOM, MORE, REST)),
            System(("x", "y"), (("need", ((-2, -1), (-1, 0)), NEED[2]), ROOM, MORE, REST)),
            System(("x",)),
        ]
        for other in others:
            self.assertIs(SHOP == other, False)
            self.assertIs(other == SHOP, False)
            self.assertIs(SHOP != other, True)
            self.assertIs(other != SHOP, True)

    def test_equal_exactly_if_the_texts_are(self):
        systems = [
            System(unknowns, rows)
            for unknowns in (("x",), ("y",))
            for rows in ((), (row_called("a"),), (row_called("b"),), (row_called("a"), row_called("b")))
        ]
        for one in systems:
            for other in systems:
                self.assertIs(one == other, str(one) == str(other))
                self.assertIs(one != other, str(one) != str(other))

    def test_unequal_to_values_of_other_kinds(self):
        values = [value for value in odd_values() if not isinstance(value, (System, Same, Harsh))]
        for value in values + [SHOP_TEXT, (SHOP.unknowns, SHOP.rows), SHOP.rows, SHOP.unknowns, 4, (SHOP,), [SHOP]]:
            self.assertIs(SHOP == value, False)
            self.assertIs(value == SHOP, False)
            self.assertIs(SHOP != value, True)
            self.assertIs(value != SHOP, True)
        for value in (Same(), Harsh()):
            self.assertIs(SHOP == value, False)
            self.assertIs(SHOP != value, True)


class Unknowns(SystemsTests):
    def test_names_for_unknowns(self):
        for name in NAMES_RIGHT:
            self.assertEqual(System((name,)).unknowns, (name,))
            self.assertEqual(System((name, "q")).unknowns, (name, "q"))
            self.assertEqual(System(("q", "p", name)).unknowns, ("q", "p", name))

    def test_no_names_for_unknowns(self):
        for name in NAMES_WRONG + ["bound"]:
            self.wrong_unknowns((name,), 0)
            self.wrong_unknowns((name, "y", "z"), 0)
            self.wrong_unknowns(("x", name), 1)
            self.wrong_unknowns(("x", "y", name), 2)

    def test_no_tuple_or_an_empty_one(self):
        for value in odd_values() + ["xy", ["x", "y"], {"x": 1, "y": 2}]:
            if not isinstance(value, tuple) or value == ():
                self.wrong_unknowns(value, None)

    def test_values_of_other_kinds_as_elements(self):
        for value in odd_values():
            self.wrong_unknowns((value,), 0)
            self.wrong_unknowns(("x", value, "z"), 1)
            self.wrong_unknowns(("x", "y", value, "z"), 2)

    def test_one_that_is_there_already(self):
        self.wrong_unknowns(("x", "x"), 1)
        self.wrong_unknowns(("x", "x", "y"), 1)
        self.wrong_unknowns(("x", "y", "x"), 2)
        self.wrong_unknowns(("x", "y", "y"), 2)
        self.wrong_unknowns(("x", "x", "x"), 1)

    def test_too_many(self):
        self.wrong_unknowns(("x", "y", "z", "w"), 3)
        self.wrong_unknowns(("x", "y", "z", "w", "v"), 3)
        self.wrong_unknowns(("x", "y", "z", "x"), 3)
        self.wrong_unknowns(("x", "y", "z", None), 3)
        self.wrong_unknowns(("x", "y", "z") + (Harsh(),) * 99, 3)

    def test_first_wrong_one_counts(self):
        self.wrong_unknowns(("X", "x", "x", "w"), 0)
        self.wrong_unknowns(("x", "x", "Y", "w"), 1)
        self.wrong_unknowns(("x", "Y", "x"), 1)
        self.wrong_unknowns(("x", "y", "bound", "w"), 2)
        self.wrong_unknowns(("x", "y", "x", "w"), 2)

    def test_unknowns_are_looked_at_before_rows(self):
        with self.assertRaises(InvalidUnknowns) as caught:
            System(rows=5, unknowns=("x", "x"))
        self.assertEqual(caught.exception.index, 1)


class Rows(SystemsTests):
    def test_names_of_rows(self):
        for name in NAMES_RIGHT + ["bound"]:
            self.assertEqual(System(("x",), (row_called(name),)).names, (name,))

    def test_no_names_of_rows(self):
        for name in NAMES_WRONG + odd_values():
            self.wrong_rows(("x",), (row_called(name),), 0)
            self.wrong_rows(("x", "y"), (NEED, row_called(name, 2), REST), 1)

    def test_row_with_the_name_of_an_unknown(self):
        system = System(("x", "y"), (row_called("y", 2), row_called("x", 2), row_called("bound", 2)))
        self.assertEqual([system.unknowns, system.names], [("x", "y"), ("y", "x", "bound")])

    def test_stretches(self):
        for stretch in STRETCHES_RIGHT:
            for row in (("a", (stretch,), (0, 0)), ("a", ((0, 0),), stretch), ("a", (stretch,), stretch)):
                self.assertEqual(System(("x",), (row,)).rows, (row,))
            row = ("a", ((0, 0), stretch, (0, 0)), (0, 0))
            self.assertEqual(System(("x", "y", "z"), (row,)).rows, (row,))

    def test_no_stretches(self):
        for value in STRETCHES_WRONG + odd_values():
            self.wrong_rows(("x",), (("a", (value,), (0, 0)),), 0)
            self.wrong_rows(("x",), (("a", ((0, 0),), value),), 0)
            self.wrong_rows(("x", "y"), (NEED, ("a", (value, (0, 0)), (0, 0))), 1)
            self.wrong_rows(("x", "y"), (NEED, ("a", ((0, 0), value), (0, 0))), 1)
            self.wrong_rows(("x", "y"), (NEED, ROOM, ("a", ((0, 0), (0, 0)), value)), 2)

    def test_a_stretch_for_each_unknown(self):
        one = (0, 0)
        for unknowns in (("x",), ("x", "y"), ("x", "y", "z")):
            for many in range(6):
                row = ("a", (one,) * many, one)
                if many == len(unknowns):
                    self.assertEqual(System(unknowns, (row,)).rows, (row,))
                else:
                    self.wrong_rows(unknowns, (row,), 0)
            self.wrong_rows(unknowns, (("a", [one] * len(unknowns), one),), 0)

    def test_no_tuple_of_stretches(self):
        for value in odd_values():
            self.wrong_rows(("x",), (("a", value, (0, 0)),), 0)

    def test_rows_of_other_forms(self):
        right = row_called("a")
        for value in odd_values() + [
            list(right), right[:2], right[1:], right + ((0, 0),), (right,), "a", ("a", (0, 0), (0, 0)),
            (right[1], "a", right[2]), ("a", right[2], right[1]), ("a", 0, 0, 0, 0), ("a", ((0, 0), (0, 0))),
        ]:
            self.wrong_rows(("x",), (value,), 0)
            self.wrong_rows(("x",), (right, row_called("b"), value, value), 2)

    def test_no_tuple(self):
        for value in odd_values() + [[row_called("a")], {row_called("a"): 1}, "a"]:
            if not isinstance(value, tuple):
                self.wrong_rows(("x",), value, None)

    def test_one_that_is_there_already(self):
        one, other = row_called("a"), row_called("b")
        self.wrong_rows(("x",), (one, one), 1)
        self.wrong_rows(("x",), (one, ("a", ((1, 2),), (3, 4))), 1)
        self.wrong_rows(("x",), (one, other, one), 2)
        self.wrong_rows(("x",), (one, other, other, one), 2)
        self.wrong_rows(("x",), (row_called("bound"), row_called("bound")), 1)

    def test_too_many(self):
        rows = tuple(row_called(name) for name in "abcdefgh")
        self.wrong_rows(("x",), rows[:7], 6)
        self.wrong_rows(("x",), rows, 6)
        self.wrong_rows(("x",), rows[:6] + (rows[0],), 6)
        self.wrong_rows(("x",), rows[:6] + (None,), 6)
        self.wrong_rows(("x",), rows[:6] + (Harsh(),) * 99, 6)

    def test_first_wrong_one_counts(self):
        rows = tuple(row_called(name) for name in "abcdefgh")
        self.wrong_rows(("x",), (None,) + rows, 0)
        self.wrong_rows(("x",), rows[:3] + (rows[1],) + rows[4:], 3)
        self.wrong_rows(("x",), rows[:5] + ("f",) + rows[6:], 5)
        self.wrong_rows(("x",), (rows[0], rows[0], None), 1)
        self.wrong_rows(("x",), (rows[0], None, rows[0]), 1)

    def test_what_is_passed_stays_as_it_was(self):
        rows = [row_called("a"), list(row_called("b"))]
        with self.assertRaises(InvalidRows):
            System(("x",), rows)
        self.assertEqual(rows, [row_called("a"), list(row_called("b"))])
