"""[6], [14] `changed`, `without` and `more`: the systems that they give, and what they raise."""

import unittest

from commonanswer.errors import InvalidChange, InvalidIndex, InvalidRows
from commonanswer.systems import System
from tests.samples import (
    MORE, NEED, REST, ROOM, SHOP, SHOP_TEXT, STRETCHES_RIGHT, STRETCHES_WRONG, odd_values, row_called,
)


class Changes(unittest.TestCase):
    def tearDown(self):
        """The system itself stays as it was."""
        self.assertEqual(str(SHOP), SHOP_TEXT)
        self.assertEqual([SHOP.unknowns, SHOP.rows], [("x", "y"), (NEED, ROOM, MORE, REST)])


class Changed(Changes):
    def wrong(self, change, system=SHOP):
        """Both ways to pass this change raise InvalidChange with it."""
        for changed in (lambda: system.changed(change), lambda: system.changed(change=change)):
            with self.subTest(change=change), self.assertRaises(InvalidChange) as caught:
                changed()
            self.assertIs(caught.exception.given, change)

    def test_each_place_of_a_row(self):
        told = {
            "x": ("room", ((7, 8), (0, 1)), (5, 5)),
            "y": ("room", ((1, 1), (7, 8)), (5, 5)),
            "bound": ("room", ((1, 1), (0, 1)), (7, 8)),
        }
        for place, row in told.items():
            changed = SHOP.changed(("room", place, (7, 8)))
            self.assertIs(changed.__class__, System)
            self.assertEqual(changed.unknowns, ("x", "y"))
            self.assertEqual(changed.rows, (NEED, row, MORE, REST))
            self.assertEqual(SHOP.changed(change=("room", place, (7, 8))), changed)

    def test_each_row(self):
        for at, row in enumerate(SHOP.rows):
            rows = SHOP.changed((row[0], "bound", (-10000, 10000))).rows
            self.assertEqual(rows[at], (row[0], row[1], (-10000, 10000)))
            self.assertEqual(rows[:at] + rows[at + 1:], SHOP.rows[:at] + SHOP.rows[at + 1:])

    def test_the_stretch_that_is_there(self):
        self.assertEqual(SHOP.changed(("room", "x", (1, 1))), SHOP)

    def test_names_that_rows_share_with_unknowns_and_with_bound(self):
        system = System(("x", "y"), (row_called("y", 2), row_called("bound", 2)))
        self.assertEqual(system.changed(("y", "x", (1, 2))).rows[0], ("y", ((1, 2), (0, 0)), (0, 0)))
        self.assertEqual(system.changed(("y", "y", (1, 2))).rows[0], ("y", ((0, 0), (1, 2)), (0, 0)))
        self.assertEqual(system.changed(("bound", "bound", (1, 2))).rows[1], ("bound", ((0, 0), (0, 0)), (1, 2)))
        self.assertEqual(system.changed(("bound", "y", (1, 2))).rows[1], ("bound", ((0, 0), (1, 2)), (0, 0)))
        self.wrong(("x", "y", (1, 2)), system)

    def test_values_that_are_stretches(self):
        for stretch in STRETCHES_RIGHT:
            for place in ("x", "bound"):
                changed = SHOP.changed(("need", place, stretch))
                self.assertEqual(System.read(str(changed)), changed)
                self.assertEqual(changed.changed(("need", place, (0, 0))), SHOP.changed(("need", place, (0, 0))))
            self.assertEqual(SHOP.changed(("need", "y", stretch)).rows[0], ("need", ((-2, -1), stretch), (-4, -3)))

    def test_values_that_are_no_stretches(self):
        for value in STRETCHES_WRONG + odd_values():
            for place in ("x", "y", "bound"):
                self.wrong(("room", place, value))

    def test_no_name_of_a_row(self):
        for name in ["x", "y", "bound", "rooms", "roo", "Room", "other", "room "] + odd_values():
            self.wrong((name, "bound", (0, 1)))

    def test_no_place(self):
        for place in ["z", "room", "need", "bounds", "Bound", "xy"] + odd_values():
            self.wrong(("room", place, (0, 1)))

    def test_other_forms(self):
        right = ("room", "bound", (0, 1))
        for change in odd_values() + [
            list(right), right[:2], right[1:], right + (1,), (right,), "room", ("room", "bound", 0, 1), right[::-1],
            ("bound", "room", (0, 1)),
        ]:
            self.wrong(change)

    def test_system_without_rows(self):
        for change in (("room", "bound", (0, 1)), ("x", "x", (0, 1)), ("bound", "bound", (0, 1)), ()):
            self.wrong(change, System(("x",)))


class Without(Changes):
    def wrong(self, index, system=SHOP):
        """Both ways to pass this index raise InvalidIndex with it."""
        for without in (lambda: system.without(index), lambda: system.without(index=index)):
            with self.subTest(index=index), self.assertRaises(InvalidIndex) as caught:
                without()
            self.assertIs(caught.exception.given, index)

    def test_each_row(self):
        told = [(ROOM, MORE, REST), (NEED, MORE, REST), (NEED, ROOM, REST), (NEED, ROOM, MORE)]
        for index, rows in enumerate(told):
            for system in (SHOP.without(index), SHOP.without(index=index)):
                self.assertIs(system.__class__, System)
                self.assertEqual([system.unknowns, system.rows], [("x", "y"), rows])

    def test_last_row(self):
        system = System(("x",), (row_called("a"),)).without(0)
        self.assertEqual([system.unknowns, system.rows, str(system)], [("x",), (), "unknowns x"])

    def test_no_index(self):
        for index in [4, 5, -1, -4, -5, 10 ** 39, -(10 ** 39), "0", "need", ROOM, SHOP]:
            self.wrong(index)
        for index in odd_values():
            if index.__class__ is not int or not 0 <= index < 4:
                self.wrong(index)

    def test_no_index_of_a_system_without_rows(self):
        for index in (0, 1, -1, False, None):
            self.wrong(index, System(("x",)))


class More(Changes):
    def wrong(self, system, row):
        """Both ways to pass this row raise InvalidRows with the number of rows."""
        for more in (lambda: system.more(row), lambda: system.more(row=row)):
            with self.subTest(row=row), self.assertRaises(InvalidRows) as caught:
                more()
            self.assertEqual(caught.exception.index, len(system))

    def test_a_row_behind_the_others(self):
        easy = ("easy", ((1, 1), (0, 0)), (5, 9))
        for system in (SHOP.more(easy), SHOP.more(row=easy)):
            self.assertIs(system.__class__, System)
            self.assertEqual([system.unknowns, system.rows], [("x", "y"), (NEED, ROOM, MORE, REST, easy)])

    def test_row_by_row(self):
        system = System(("x", "y"))
        for row in SHOP.rows:
            system = system.more(row)
        self.assertEqual(system, SHOP)

    def test_wrong_rows(self):
        right = row_called("a", 2)
        for row in odd_values() + [
            list(right), right[:2], right + (1,), row_called("a", 1), row_called("a", 3), row_called("A", 2), (right,),
            ("a", ((0, 0), (1, 0)), (0, 0)), ("a", ((0, 0), (0, 0)), (0, 10001)), ("a", ((0, 0), (0, True)), (0, 0)),
        ]:
            self.wrong(SHOP, row)
            self.wrong(System(("x", "y")), row)

    def test_name_that_is_there_already(self):
        for row in SHOP.rows:
            self.wrong(SHOP, row)
            self.wrong(SHOP, row_called(row[0], 2))

    def test_too_many(self):
        full = System(("x",), tuple(row_called(name) for name in "abcdef"))
        self.assertEqual(full.without(5).more(row_called("g")).names, ("a", "b", "c", "d", "e", "g"))
        for row in (row_called("g"), row_called("a"), None):
            self.wrong(full, row)
