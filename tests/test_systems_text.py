"""[6] The text of a system, and `System.read`."""

import unittest

from commonanswer.errors import InvalidText
from commonanswer.systems import System
from tests.samples import SHOP, SHOP_TEXT, odd_values, row_called

LONE = "unknowns x\nrow a 1 2 3 4"


def systems():
    """Systems of all sizes, with numbers and names up to their limits."""
    ends = [-10000, -9999, -100, -10, -1, 0, 1, 9, 10, 99, 1000, 9999, 10000]
    pairs = [(low, high) for low in ends for high in ends if low <= high]
    names = ("row", "unknowns", "bound", "a1234567", "x", "z0")
    made = [SHOP, System(("row", "unknowns", "x"))]
    for many in (1, 2, 3):
        for size in range(7):
            rows = []
            for at in range(size):
                *stretches, bound = [pairs[(7 * at + 11 * k + 5 * many) % len(pairs)] for k in range(many + 1)]
                rows.append((names[at], tuple(stretches), bound))
            made.append(System(("x", "row", "abcdefgh")[:many], tuple(rows)))
    return made + [System(("x",), (("a", (pair,), pair),)) for pair in pairs]


class Text(unittest.TestCase):
    def wrong(self, text):
        """Both ways to read this value raise InvalidText with it."""
        for read in (lambda: System.read(text), lambda: System.read(text=text)):
            with self.subTest(text=text), self.assertRaises(InvalidText) as caught:
                read()
            self.assertIs(caught.exception.given, text)

    def test_text_of_a_system(self):
        self.assertEqual(str(SHOP), SHOP_TEXT)
        self.assertEqual(str(System(("x",))), "unknowns x")
        self.assertEqual(str(System(("b", "a", "c"))), "unknowns b a c")
        row = ("a", ((-10000, 10000), (0, 0), (-1, 1)), (-7, 20))
        self.assertEqual(str(System(("x", "y", "z"), (row,))), "unknowns x y z\nrow a -10000 10000 0 0 -1 1 -7 20")

    def test_read_gives_the_system_with_this_text(self):
        for system in systems():
            for read in (System.read(str(system)), System.read(text=str(system)), system.read(str(system))):
                self.assertIs(read.__class__, System)
                self.assertEqual(read, system)
                self.assertEqual(str(read), str(system))
                self.assertEqual([read.unknowns, read.rows], [system.unknowns, system.rows])

    def test_read_by_hand(self):
        self.assertEqual(System.read(LONE).rows, (("a", ((1, 2),), (3, 4)),))
        self.assertEqual(System.read("unknowns x y").unknowns, ("x", "y"))
        self.assertEqual(System.read("unknowns x\nrow a -10000 10000 0 0").rows[0][1], ((-10000, 10000),))
        self.assertEqual(System.read("unknowns row\nrow unknowns 0 0 0 0\nrow row 0 0 0 0").names, ("unknowns", "row"))

    def test_values_that_are_no_strings(self):
        for value in odd_values() + [LONE.encode(), [LONE], (LONE,), LONE.split("\n"), SHOP, System]:
            self.wrong(value)

    def test_texts_that_tell_no_unknowns(self):
        for text in (
            "", "\n", " ", "x", "unknowns", "unknowns ", "unknowns  ", "unknown x", "Unknowns x", "unknowns X", "row a",
            "unknownsx", "x unknowns", "unknowns bound", "unknowns x x", "unknowns x y z w", "unknowns 1",
            "unknowns x,y", "unknowns abcdefghi", "unknowns x bound", "-", "0", "row a 1 2 3 4",
            "row a 1 2 3 4\nunknowns x", "unknowns x\nunknowns x", "unknowns x\nunknowns y\nrow a 1 2 3 4",
            "row x\nrow a 1 2 3 4",
        ):
            self.wrong(text)

    def test_blanks_too_many_or_too_few(self):
        for text in (LONE, SHOP_TEXT, "unknowns x"):
            for at, char in enumerate(text):
                self.wrong(text[:at] + " " + text[at:])
                if char == " ":
                    for other in ("", "\t", "\n", "_", "  "):
                        self.wrong(text[:at] + other + text[at + 1:])
            self.wrong(text + " ")

    def test_newlines_at_the_ends_and_between(self):
        for text in (LONE, SHOP_TEXT, "unknowns x"):
            for wrong in (text + "\n", text + "\n\n", "\n" + text, text.replace("\n", "\n\n"), text.replace("\n", " ")):
                if wrong != text:
                    self.wrong(wrong)
            self.wrong(text + "\r")
        self.wrong(LONE.replace("\n", "\r\n"))
        self.wrong(LONE.replace("\n", "\r"))
        self.wrong(LONE.replace("\n", ""))

    def test_other_forms_of_numbers(self):
        for word in (
            "00", "01", "-01", "007", "-0", "-00", "+1", "+0", "--1", "-", "+", "- 1", "1-", "1_0", "1.0", "1e1", "0x1",
            "1,0", "(1)", "a", "-a", "one", "None", "True", "0b1", "1 ", "~1", "1/1", "\u0663", "\u00b2", "\uff11",
        ):
            for text in (
                f"unknowns x\nrow a {word} 10000 0 0", f"unknowns x\nrow a -10000 {word} 0 0",
                f"unknowns x\nrow a 0 0 {word} 10000", f"unknowns x\nrow a 0 0 -10000 {word}",
                f"unknowns x y\nrow a 0 0 0 0 0 0\nrow b 0 0 -10000 {word} 0 0",
            ):
                self.wrong(text)

    def test_numbers_beyond_the_limits(self):
        for text in (
            "unknowns x\nrow a 0 10001 0 0", "unknowns x\nrow a -10001 0 0 0", "unknowns x\nrow a 0 0 0 10001",
            "unknowns x\nrow a 0 0 -10001 0", "unknowns x\nrow a 0 99999 0 0", "unknowns x\nrow a 0 100000 0 0",
            "unknowns x\nrow a -100000 0 0 0", "unknowns x\nrow a 0 " + "9" * 40 + " 0 0",
            "unknowns x\nrow a -" + "9" * 39 + " 0 0 0", "unknowns x\nrow a 0 0 0 " + "0" * 39 + "1",
            "unknowns x\nrow a 0 0 0 " + "9" * 7000, "unknowns x\nrow a " + "-" * 7000 + "1 0 0 0",
        ):
            self.wrong(text)

    def test_low_above_high(self):
        for text in ("unknowns x\nrow a 1 0 0 0", "unknowns x\nrow a 0 0 1 0", "unknowns x\nrow a -1 -2 0 0"):
            self.wrong(text)

    def test_numbers_too_many_or_too_few(self):
        for many in range(12):
            text = "unknowns x y\nrow a" + " 0" * many
            if many == 6:
                self.assertEqual(System.read(text), System(("x", "y"), (row_called("a", 2),)))
            else:
                self.wrong(text)
        self.wrong("unknowns x\nrow")
        self.wrong("unknowns x\nrow a")
        self.wrong("unknowns x\nrow 0 0 0 0")

    def test_words_of_rows(self):
        for line in (
            "rows a 1 2 3 4", "a 1 2 3 4", "Row a 1 2 3 4", "row A 1 2 3 4", "row 1 1 2 3 4", "row a b 1 2 3 4",
            "row abcdefghi 1 2 3 4", "row row a 1 2 3 4", "row a 1 2 3 4 a", "a row 1 2 3 4", "row  1 2 3 4",
            " a 1 2 3 4",
        ):
            self.wrong("unknowns x\n" + line)
            self.wrong(LONE + "\n" + line)

    def test_rows_with_one_name_and_rows_too_many(self):
        self.wrong(LONE + "\nrow a 5 6 7 8")
        lines = [f"row {name} 0 0 0 0" for name in "abcdefgh"]
        self.assertEqual(len(System.read("\n".join(["unknowns x"] + lines[:6]))), 6)
        self.wrong("\n".join(["unknowns x"] + lines[:7]))
        self.wrong("\n".join(["unknowns x"] + lines))
        self.wrong("\n".join(["unknowns x"] + lines[:1] * 400))

    def test_long_strings(self):
        for text in ("x" * 8000, " " * 8000, "\n" * 8000, "unknowns " + "x" * 7991, "9" * 8000, "row a " * 1300):
            self.wrong(text)
            self.wrong(LONE + "\n" + text)
            self.wrong("unknowns x " + text)

    def test_only_the_text_of_a_system_is_read(self):
        for at in range(len(LONE)):
            for char in "\n !+-.019:@Za_z~":
                text = LONE[:at] + char + LONE[at + 1:]
                try:
                    system = System.read(text)
                except InvalidText as error:
                    self.assertEqual(error.given, text)
                else:
                    self.assertEqual(str(system), text)
