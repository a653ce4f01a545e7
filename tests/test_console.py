"""The console: each form of line, done and answered against a desk beside it, and what is no line."""

import inspect

from commonanswer.common import common, sure_range
from commonanswer.console import Console
from commonanswer.costs import best, worst
from commonanswer.errors import BadName, BadValue, InvalidText, InvalidUnknowns, NoAnswer
from commonanswer.live import Desk
from commonanswer.possible import possible
from commonanswer.systems import System
from tests.raising import Raising
from tests.reckoning import UNKNOWNS, Dice
from tests.samples import odd_values

NAMES = ("a", "b", "c", "bound", "x", "none", "abcdefgh", "z9")
ROW = "put need -2 -1 -1 -1 -4 -3"
ROOM = "put room 1 1 0 1 5 5"


def told(number):
    """The word for a fraction, or for none."""
    if number is None:
        return "none"
    return str(number[0]) if number[1] == 1 else f"{number[0]}/{number[1]}"


def answer(desk, line):
    """What a console should answer to a line, done at the desk beside it."""
    word, *others = line.split(" ")
    numbers = tuple([int(own) for own in others if own[-1].isdigit() and not own[0].isalpha()])
    pairs = tuple(zip(numbers[::2], numbers[1::2]))
    calls = {
        "put": lambda: desk.put((others[0], pairs[:-1], pairs[-1])),
        "narrow": lambda: desk.narrow(others[0], others[1], pairs[0]),
        "drop": lambda: desk.drop(others[0]),
        "undo": lambda: desk.undo(),
        "rows": lambda: " ".join(desk.system.names) or "none",
        "all": lambda: "no" if common(desk.system) is None else "yes",
        "some": lambda: "no" if possible(desk.system) is None else "yes",
        "range": lambda: " ".join([told(end) for end in sure_range(desk.system, others[0])]),
        "worst": lambda: told(worst(desk.system, numbers)),
        "best": lambda: told(best(desk.system, numbers)),
    }
    try:
        return calls[word]() or "ok"
    except (BadValue, BadName, NoAnswer) as error:
        return error.__class__.__name__


def numbers(dice, many, size):
    """Words for so many integers."""
    return " ".join([str(dice.throw(-size, size)) for _ in range(many)])


def stretches(dice, many, size):
    """Words for so many stretches, most of them right."""
    found = []
    for _ in range(many):
        ends = [dice.throw(-size, size), dice.throw(-size, size)]
        found = found + (sorted(ends) if dice.throw(0, 19) > 0 else ends)
    return " ".join([str(end) for end in found])


def thrown_line(dice, many):
    """A line of any form for a desk with so many unknowns."""
    name = dice.pick(NAMES)
    word = dice.pick(("put",) * 5 + ("narrow", "narrow", "drop", "undo", "rows", "all", "some", "range", "worst", "best"))
    if word == "put":
        size = dice.pick((3, 3, 9, 9000, 999999))
        return f"put {name} {stretches(dice, dice.pick((many,) * 7 + (1, 2, 3, 4, 9)) + 1, size)}"
    if word == "narrow":
        return f"narrow {name} {dice.pick(UNKNOWNS[:many] + ('bound', 'bound', 'q'))} {stretches(dice, 1, 3)}"
    if word == "range":
        return f"range {dice.pick(UNKNOWNS)}"
    if word in ("worst", "best"):
        return f"{word} {numbers(dice, dice.pick((many,) * 5 + (1, 2, 3, 4)), dice.pick((0, 1, 9, 1000, 1001)))}"
    return f"drop {name}" if word == "drop" else word


class Consoles(Raising):
    def stands(self, console, desk):
        """The desk of the console is as the one beside it."""
        self.assertEqual([console.desk.system, len(console.desk)], [desk.system, len(desk)])


class Lines(Consoles):
    def test_long_rows_of_lines(self):
        answers = {}
        for seed in range(40):
            dice, many = Dice(seed), 1 + seed % 3
            console, desk = Console(UNKNOWNS[:many]), Desk(UNKNOWNS[:many])
            self.stands(console, desk)
            for _ in range(100):
                line = thrown_line(dice, many)
                own = console.say(line)
                self.assertEqual([own.__class__, own], [str, answer(desk, line)], line)
                word = (line.split(" ")[0], own if own.isalpha() else "numbers")
                answers[word] = answers.get(word, 0) + 1
                self.stands(console, desk)
            while len(desk) > 0:
                self.assertEqual(console.say("undo"), "ok")
                desk.undo()
                self.stands(console, desk)
        for word in (
            ("put", "ok"), ("put", "InvalidRow"), ("narrow", "ok"), ("narrow", "InvalidName"), ("narrow", "InvalidStretch"),
            ("drop", "ok"), ("drop", "InvalidName"), ("undo", "ok"), ("undo", "NothingToUndo"), ("rows", "none"),
            ("all", "yes"), ("all", "no"), ("some", "yes"), ("some", "no"), ("range", "numbers"), ("range", "InvalidName"),
            ("range", "NoSure"), ("worst", "numbers"), ("worst", "none"), ("worst", "NoSure"), ("worst", "InvalidCosts"),
            ("best", "numbers"), ("best", "none"), ("best", "NoPossible"), ("best", "InvalidCosts"),
        ):
            self.assertGreater(answers.get(word, 0), 3, (word, answers))

    def test_answers_written_out(self):
        console = Console(("x", "y"))
        for line, own in (
            ("rows", "none"), ("all", "yes"), ("some", "yes"), ("range x", "none none"), ("worst 0 0", "0"),
            ("worst 1 0", "none"), ("best -1 0", "none"), ("undo", "NothingToUndo"), ("drop need", "InvalidName"),
            (ROW, "ok"), ("rows", "need"), ("all", "yes"), ("range x", "none none"), (ROOM, "ok"), ("rows", "need room"),
            (ROW, "InvalidRow"), ("put need 1 1", "InvalidRow"), ("put more -1 -1 0 0 0 0", "ok"),
            ("range x", "0 5"), ("range y", "-1 5"), ("range z", "InvalidName"), ("range need", "InvalidName"),
            ("range bound", "InvalidName"), ("worst 2 1", "4"), ("worst 1 1", "4"), ("worst 1", "InvalidCosts"),
            ("worst 1 1 1", "InvalidCosts"), ("worst 1001 0", "InvalidCosts"), ("worst 1000 -1000", "-5000"),
            ("best 2 1", "3"), ("best 0 1", "none"), ("best 5 2", "6"), ("narrow room bound 6 6", "InvalidStretch"),
            ("narrow room y 1 1", "ok"), ("narrow room z 1 1", "InvalidName"), ("narrow need bound -3 -4", "InvalidStretch"),
            ("narrow nope x 0 0", "InvalidName"), ("narrow room y 0 1", "InvalidStretch"), ("drop more", "ok"),
            ("drop more", "InvalidName"), ("put third 0 0 3 3 1 2", "ok"), ("range y", "none 1/3"), ("undo", "ok"),
            ("undo", "ok"), ("undo", "ok"), ("rows", "need room more"), ("put never 0 0 0 0 -2 -1", "ok"), ("all", "no"),
            ("some", "no"), ("range x", "NoSure"), ("worst 1 1", "NoSure"), ("best 1 1", "NoPossible"), ("undo", "ok"),
        ):
            self.assertEqual(console.say(line), own, line)

    def test_ends_that_are_not_there(self):
        console = Console(("x",))
        console.say("put up 2 2 1 3")
        self.assertEqual(console.say("range x"), "none 1/2")
        self.assertEqual([console.say("worst -3"), console.say("best -3"), console.say("worst 1")], ["-3/2", "-9/2", "none"])
        console.say("put down -3 -3 2 4")
        self.assertEqual(console.say("range x"), "-2/3 1/2")
        console.say("drop up")
        self.assertEqual(console.say("range x"), "-2/3 none")

    def test_numbers_of_up_to_six_figures(self):
        console = Console(("x",))
        for line, own in (
            ("put a 0 999999 0 0", "InvalidRow"), ("put a -999999 0 0 0", "InvalidRow"), ("put a 0 10001 0 0", "InvalidRow"),
            ("put a -10000 10000 0 0", "ok"), ("worst 999999", "InvalidCosts"), ("worst -100000", "InvalidCosts"),
            ("narrow a x -100000 100000", "InvalidStretch"), ("worst 0", "0"),
        ):
            self.assertEqual(console.say(line), own, line)

    def test_names_that_are_words(self):
        console = Console(("put", "none"))
        for line, own in (
            ("put put 1 1 0 0 5 5", "ok"), ("put all 0 0 1 1 5 5", "ok"), ("put undo 0 0 0 0 0 0", "ok"),
            ("put none 1 1 1 1 9 9", "ok"), ("put bound 1 1 1 1 9 9", "ok"), ("rows", "put all undo none bound"),
            ("narrow put put 1 1", "ok"), ("narrow bound bound 9 9", "ok"), ("range put", "none 5"), ("range none", "none 5"),
            ("drop undo", "ok"), ("drop none", "ok"), ("rows", "put all bound"),
        ):
            self.assertEqual(console.say(line), own, line)

    def test_many_stretches(self):
        console = Console(("x", "y"))
        for many in range(1, 12):
            own = "ok" if many == 3 else "InvalidRow"
            self.assertEqual(console.say("put a" + " 0 0" * many), own)
        for many in range(1, 12):
            own = "0" if many == 2 else "InvalidCosts"
            self.assertEqual([console.say(word + " 0" * many) for word in ("worst", "best")], [own, own])

    def test_its_desk(self):
        console = Console(unknowns=("x", "y"))
        desk = console.desk
        self.assertIsInstance(desk, Desk)
        self.assertTrue(console.desk is desk)
        self.assertEqual(console.say(line=ROW), "ok")
        self.assertEqual([desk.system.names, len(desk)], [("need",), 1])
        desk.put(("by", ((0, 0), (0, 0)), (0, 0)))
        self.assertEqual(console.say("rows"), "need by")
        with self.assertRaises(KeyError), desk.trial():
            console.say("drop need")
            self.assertEqual(console.say("rows"), "by")
            raise KeyError
        self.assertEqual(console.say("rows"), "need by")
        self.assertEqual([console.say("undo"), console.say("undo"), len(desk)], ["ok", "ok", 0])
        self.assertEqual(list(inspect.signature(console.say).parameters), ["line"])
        self.assertIn("say", vars(Console))
        self.assertIsInstance(vars(Console)["desk"], property)

    def test_two_consoles_do_not_touch_each_other(self):
        one, other = Console(("x", "y")), Console(("x", "y"))
        one.say(ROW)
        self.assertEqual([one.say("rows"), other.say("rows"), other.say("undo")], ["need", "none", "NothingToUndo"])

    def test_equal_to_itself_alone_and_true(self):
        one, other = Console(("x",)), Console(("x",))
        self.assertTrue(one == one)
        self.assertFalse(one != one)
        self.assertFalse(one == other)
        self.assertTrue(one != other)
        for value in odd_values() + [one.desk, System(("x",))]:
            self.assertIs(one == value, False)
            self.assertIs(one != value, True)
        self.assertFalse(one.desk == one)
        self.assertTrue(one)

    def test_same_in_the_same_condition(self):
        asked = ("rows", "all", "some", "range x", "worst 1 1", "best -1 1")
        one, other = Console(("x", "y")), Console(("x", "y"))
        for line in (ROW, ROOM, "narrow room y 1 1"):
            one.say(line)
            first = [one.say(own) for own in asked]
            self.assertEqual([one.say(own) for own in asked[::-1]], first[::-1])
            other.say(line)
            self.assertEqual([other.say(own) for own in asked], first)

    def test_example(self):
        console = Console(("x", "y"))
        self.assertEqual(
            [console.say(ROW), console.say(ROOM), console.say("all"), console.say("worst 1 1"), console.say("range x"),
             console.say("put need 1 1"), console.say("worst 1")],
            ["ok", "ok", "yes", "4", "-1 5", "InvalidRow", "InvalidCosts"],
        )
        self.raised((InvalidText, {"given": "put need"}), console.say, "put need")


class Errors(Consoles):
    def setUp(self):
        self.console, self.desk = Console(("x", "y")), Desk(("x", "y"))
        for line in (ROW, ROOM):
            self.assertEqual([self.console.say(line), answer(self.desk, line)], ["ok", "ok"])

    def tearDown(self):
        self.stands(self.console, self.desk)
        self.assertEqual([self.console.say("undo") for _ in range(3)], ["ok", "ok", "NothingToUndo"])

    def wrong(self, value):
        """This is no line, and nothing changes."""
        self.raised((InvalidText, {"given": value}), self.console.say, value)
        self.raised((InvalidText, {"given": value}), self.console.say, line=value)
        self.stands(self.console, self.desk)

    def test_values_that_are_no_strings(self):
        for value in odd_values() + [b"rows", ["rows"], ("rows",), ["put", "a", "0", "0"], {"rows": 1}, self.console]:
            self.wrong(value)

    def test_numbers_that_are_none(self):
        for word in ("00", "01", "-0", "-00", "-01", "+1", "1.0", "1e3", "0x1", "1000000", "-1000000", "0000001", "", "-",
                     "--1", "1-", "one", "1_0", "1,", "1/2", "a", "9" * 39, "-" + "9" * 39, "1\n", "0 ", " 0", "1 -"):
            for line in ("put a {} 0 0 0 0 0", "put a 0 0 0 0 0 {}", "narrow need x {} -1", "narrow need x -2 {}",
                         "worst {} 0", "worst 0 {}", "best {} 0", "best 0 {}", "worst {}", "best {}"):
                self.wrong(line.format(word))

    def test_blanks(self):
        for line in (ROW, "narrow need x -1 -1", "drop need", "undo", "rows", "all", "some", "range x", "worst 1 1", "best 1 1"):
            for value in (" " + line, line + " ", line + "\n", "\n" + line, line + "  ", line.upper(), line.title(),
                          line + " " + line, line + " a", line[1:], "\t" + line):
                self.wrong(value)
            if " " in line:
                self.wrong(line.replace(" ", "  ", 1))
                self.wrong(line.replace(" ", "\n", 1))
                self.wrong(line.replace(" ", "", 1))
                self.wrong("  ".join(line.rsplit(" ", 1)))

    def test_names_that_are_none(self):
        for name in ("abcdefghi", "Need", "1a", "a_b", "a-b", "", "-", "a.", "0", "-1"):
            for line in ("put {} 0 0 0 0 0 0", "narrow {} x -1 -1", "narrow need {} -1 -1", "drop {}", "range {}"):
                self.wrong(line.format(name))

    def test_too_few_and_too_many_words(self):
        for line in (
            "", " ", "put", "put a", "put a 0", "put a 0 0 0", "put a 0 0 0 0 0", "put 0 0", "put 0 0 0", "put a b 0 0",
            "put a 0 0 b", "narrow", "narrow need", "narrow need x", "narrow need x -1", "narrow need x -1 -1 -1",
            "narrow need x -1 -1 -1 -1", "narrow need -1 -1", "narrow x -1 -1", "drop", "drop need room", "drop 0", "undo 1",
            "undo undo", "rows need", "rows 1", "all x", "some x", "all 1", "range", "range x y", "range 1", "worst", "best",
            "worst x", "best x y", "worst 1 x", "say rows", "look", "served", "system", "trial", "serves 1 1", "possible",
        ):
            self.wrong(line)

    def test_unknowns(self):
        for value, index in (((), None), (["x"], None), (("x", "x"), 1), (("x", "y", "z", "w"), 3), ((0,), 0)):
            self.raised((InvalidUnknowns, {"index": index}), Console, value)
