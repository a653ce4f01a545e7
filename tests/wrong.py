"""What each parameter of the functions of the interface does not take, with what its error tells."""

from fractions import Fraction

from commonanswer.systems import System
from tests.samples import FOUR, SHOP, SHOP_TEXT, THREE, TIGHT, Harsh, Same, odd_values

ONE = (1, 1)
FRACTIONS_WRONG = [
    (2, 2), (2, 4), (-3, 3), (0, 2), (0, 10), (10 ** 39, 10), (-(10 ** 38), 10 ** 39), (6, 4), (-6, 4), (1, 0), (0, 0),
    (-1, 0), (1, -1), (-1, -1), (0, -1), (3, -2), (True, 1), (1, True), (True, True), (False, 1), (0, False), (0, True),
    [1, 1], (), (1,), (1, 1, 1), ((1, 1),), ((1, 1), 1), (1, (1, 1)), ((1,), (1,)), "11", "1", "1/1", b"11", 0, 1,
    None, True, False, {1: 1, 2: 2}, (None, 1), (1, None), ("1", "1"), ("1", 1), (1, "1"), ([1], [1]), ([], 1),
    Fraction(1, 2), (Fraction(1, 1), 1), (Same(), Same()), (1, Same()), (Same(), 1), (Harsh(), Harsh()), (1, Harsh()),
]
COSTS_WRONG = [
    1001, -1001, 10 ** 39, -(10 ** 39), True, False, None, "1", "", b"1", (1,), [1], (), [], {}, (1, 1), ((1, 1),),
    Fraction(1, 1), Same(), Harsh(), SHOP, 10000,
]


def systems_wrong():
    """Values that are no systems."""
    return [value for value in odd_values() if not isinstance(value, System)] + [
        str(SHOP), (SHOP.unknowns, SHOP.rows), SHOP.rows, SHOP.unknowns, (SHOP,), [SHOP], {"x": SHOP}, (SHOP, TIGHT),
    ]


def answers_wrong():
    """Values that are no answers for two unknowns."""
    pairs = [pair for value in FRACTIONS_WRONG + odd_values() for pair in ((value, ONE), (ONE, value))]
    return FRACTIONS_WRONG + odd_values() + pairs + [
        [ONE, ONE], (ONE,), (ONE, ONE, ONE), ((ONE, ONE),), ((ONE, ONE), ONE), (1, 1), (1, 1, 1, 1), {"x": ONE, "y": ONE},
        "x", "1 1", ([1, 1], [1, 1]), [(1, 1), (1, 1)], ((ONE, ONE), (ONE, ONE)),
    ]


def names_wrong():
    """Values that are no unknowns of systems with the unknowns x and y."""
    return odd_values() + ["z", "bound", "need", "room", "xy", "X", "", "x ", " x", b"x", ["x"], ("x",), ("x", "y"), 0, 1]


def costs_wrong():
    """Values that are no costs of two unknowns."""
    pairs = [pair for value in COSTS_WRONG + odd_values() for pair in ((value, 1), (1, value)) if not is_cost(value)]
    return pairs + odd_values() + [
        [1, 1], (1,), (1, 1, 1), ((1, 1),), ((1, 1), (1, 1)), ((1, 1), 1), 1, 0, "11", b"11", {"x": 1, "y": 1}, {0: 1},
        ([1, 1],), (1, [1]), (1, True), (False, False), (1001, 1), (1, -1001), (ONE, ONE),
    ]


def is_cost(value):
    """Whether a value is a cost of one unknown."""
    return value.__class__ is int and -1000 <= value <= 1000


def steps_wrong():
    """Values that are no numbers of steps."""
    return [value for value in odd_values() if value.__class__ is not int] + [
        -1, -2, -1000, 1001, 1002, 10000, 10 ** 39, -(10 ** 39), "0", "1", b"1", (0,), [1], (1, 1), Fraction(1, 1),
    ]


def texts_wrong():
    """Values that are no texts of systems with the unknowns x and y."""
    return odd_values() + [
        SHOP, SHOP_TEXT + "\n", "\n" + SHOP_TEXT, SHOP_TEXT + " ", SHOP_TEXT.replace("x y", "y x"), SHOP_TEXT.encode(),
        SHOP_TEXT.replace("-2", "-02"), SHOP_TEXT.replace("0 0", "-0 0"), SHOP_TEXT.replace(" 5", " +5"), [SHOP_TEXT],
        SHOP_TEXT.replace("room", "need"), SHOP_TEXT.replace("-4 -3", "-3 -4"), "unknowns", "unknowns x", "unknowns y x",
        "unknowns x y z", "unknowns x z", "unknowns x x", "unknowns x  y", "unknowns x y\nrow a 0 0 0 0 0",
        "unknowns x y\nrow a 0 0 0 0 0 10001", "unknowns x bound", "Unknowns x y", (SHOP_TEXT,), SHOP_TEXT[:-1],
    ]


def demands_wrong():
    """Values that are no demands on systems with the unknowns x and y."""
    found = odd_values() + [
        ("All",), ("ALL",), ("all ",), (" all",), ("",), ("none",), ("barred",), ("asks",), ("al",), ("alls",), (b"all",),
        "all", "some", ["all"], ["some"], {"all": 0}, {"all"}, ("all", ()), ("all", None), ("all", "all"), (("all",),),
        ("some", 1), ("some", ()), ("some", "some"), ("all", "some"), ("all", SHOP_TEXT), ("some", SHOP_TEXT), (None,),
        ("serves",), ("serves", (2, 1)), ("serves", (2, 1), 4, 4), ("serves", 4, (2, 1)), ("serves", 2, 1, 4),
        ["serves", (2, 1), 4], ("Serves", (2, 1), 4), ("asks", (2, 1), 4), ("serves", ((2, 1), 4)), ("worst", (2, 1), 4),
        ("serves", (2, 1), 10 ** 6 + 1), ("serves", (2, 1), -(10 ** 6) - 1), ("serves", (2, 1), 10 ** 39),
        ("serves", (2, 1), True), ("serves", (2, 1), False), ("serves", (2, 1), None), ("serves", (2, 1), "4"),
        ("serves", (2, 1), (4, 1)), ("serves", (2, 1), [4]), ("serves", (2, 1), Same()), ("serves", (2, 1), Harsh()),
        ("serves", SHOP_TEXT, (2, 1), 4), ("sure",), ("sure", FOUR, FOUR), ("sure", *FOUR), ["sure", FOUR], ("Sure", FOUR),
        ("possible", FOUR), ("like",), ("like", SHOP_TEXT, SHOP_TEXT), ["like", SHOP_TEXT], ("Like", SHOP_TEXT),
        ("alike", "x", "y"), ("within", "x", "y"), ("alike", SHOP_TEXT), ("strays", SHOP_TEXT, SHOP_TEXT),
        ("x", ("all",)), ("all", ("all",)), (Same(),), (Harsh(),), (Same(), FOUR), (Harsh(), SHOP_TEXT),
    ]
    found = found + [("serves", value, 4) for value in costs_wrong()] + [("like", value) for value in texts_wrong()]
    return found + [("sure", value) for value in answers_wrong()]


def changes_wrong():
    """Values that are no triples of the name of a row of the shop, of a place in it, and of anything."""
    odd = [value for value in odd_values() if not isinstance(value, str)]
    found = odd_values() + [
        ("need", "x"), ("need",), ("need", "x", (0, 0), (0, 0)), ("need", "x", 0, 0), ["need", "x", (0, 0)],
        ("nope", "x", (0, 0)), ("x", "need", (0, 0)), ("need", "z", (0, 0)), ("need", "need", (0, 0)), "need x 0 0",
        ("need", "Bound", (0, 0)), ("need", "boun", (0, 0)), ("bound", "x", (0, 0)), ("", "x", (0, 0)), ("need", "", 0),
        ("Need", "x", (0, 0)), ("need", 0, (0, 0)), (0, "x", (0, 0)), ("need", "y ", (0, 0)), (("need", "x"), (0, 0)),
        {"need": "x"}, ("need", "x y", (0, 0)), (b"need", "x", (0, 0)), ("need", b"x", (0, 0)), (("need", "x", (0, 0)),),
    ]
    return found + [(value, "x", (0, 0)) for value in odd] + [("need", value, (0, 0)) for value in odd]


def rows_of(right, wrong, most):
    """Tuples of right elements with a wrong one or one too many, each beside the index of the first such one."""
    one, other = right
    found = [((value,), 0) for value in wrong] + [((one, value, other), 1) for value in wrong[::3]]
    for value in wrong[::20]:
        found = found + [((one,) * (most - 1) + (value,), most - 1), ((other,) * most + (value,), most)]
        found = found + [((one, other, value) + (one,) * most, 2), ((one, value, value), 1), ((value,) * 20, 0)]
    found = found + [((one,) * (most + 1), most), ((other,) * (most + 30), most), ((one, [other]), 1), (one, 0)]
    return found + [(value, None) for value in odd_values() + [[], [one], [one, other], {one[0]: other}, {}]
                    if not isinstance(value, tuple)]


def by_value(values):
    """These values, each beside what an error for it tells."""
    return [(value, {"given": value}) for value in values]


def by_index(pairs):
    """The values of these pairs, each beside what an error for it tells."""
    return [(value, {"index": index}) for value, index in pairs]


WRONG = {
    "system": by_value(systems_wrong()), "one": by_value(systems_wrong()), "other": by_value(systems_wrong()),
    "answer": by_value(answers_wrong()), "name": by_value(names_wrong()), "costs": by_value(costs_wrong()),
    "steps": by_value(steps_wrong()), "demand": by_value(demands_wrong()),
    "seen": by_index(rows_of((FOUR, THREE), answers_wrong(), 8)),
    "demands": by_index(rows_of((("all",), ("like", SHOP_TEXT)), demands_wrong(), 5)),
    # The checker takes whatever it is passed, and says False.
    "claim": [], "certificate": [],
    "changes": by_index(rows_of((("need", "x", (0, 0)), ("rest", "bound", None)), changes_wrong(), 5)),
}
