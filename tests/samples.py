"""What several tests need: the rows and systems of the document, and values of many kinds."""

from commonanswer.systems import System

NEED = ("need", ((-2, -1), (-1, -1)), (-4, -3))
ROOM = ("room", ((1, 1), (0, 1)), (5, 5))
MORE = ("more", ((-1, -1), (0, 0)), (0, 0))
REST = ("rest", ((0, 0), (-1, -1)), (0, 0))
SHOP = System(("x", "y"), (NEED, ROOM, MORE, REST))
SHOP_TEXT = (
    "unknowns x y\n"
    "row need -2 -1 -1 -1 -4 -3\n"
    "row room 1 1 0 1 5 5\n"
    "row more -1 -1 0 0 0 0\n"
    "row rest 0 0 -1 -1 0 0"
)
TIGHT = SHOP.changed(("room", "bound", (3, 5)))
FOUR, THREE = ((0, 1), (4, 1)), ((3, 2), (0, 1))
LONG = ((-(10 ** 39), 10 ** 39 + 1), (0, 1))


class Same:
    """An object that says that it is equal to anything."""

    def __eq__(self, other):
        return True


class Harsh:
    """An object that can not be compared, measured or asked for its truth."""

    def __eq__(self, other):
        raise AssertionError("compared")

    def __bool__(self):
        raise AssertionError("asked for its truth")

    def __len__(self):
        raise AssertionError("measured")


STRETCHES_RIGHT = [
    (0, 0), (-1, 1), (3, 3), (-10000, 10000), (10000, 10000), (-10000, -10000), (-2, -1), (9999, 10000),
]
STRETCHES_WRONG = [
    (1, 0), (-1, -2), (10000, -10000), (-10001, 0), (0, 10001), (10001, 10001), (-10001, -10001), (0, 10 ** 39),
    (), (0,), (0, 0, 0), (0, 1, 2), [0, 1], {0: 1, 1: 2}, "01", b"01", 0, None, True, ((0, 1),), (0, (1,)), ((0,), 1),
    (False, True), (0, True), (False, 0), (True, True), (None, 0), (0, None), ("0", "1"), (0, "1"), ([0], [1]),
    (Same(), Same()), (0, Same()), (Harsh(), Harsh()),
]


def row_called(name, many=1):
    """A row of this name for so many unknowns."""
    return (name, ((0, 0),) * many, (0, 0))


def odd_values():
    """Values of many kinds, also nested in one another; none is a name, a row, a stretch, a change or a text."""
    plain = [
        None, True, False, 0, 1, -1, 10 ** 39, -(10 ** 39), "", " ", "X", "1", "-", "x ", " x", "x\n", "bound bound",
        b"", b"x", (), [], {}, set(), {"x"}, {"x": (0, 1)}, frozenset(), object(), Same(), Harsh(), System, len,
        System(("x",)), SHOP, ValueError("x"), ["x"], [0, 1],
    ]
    nested = [(value,) for value in plain] + [[value] for value in plain] + [(value, [value]) for value in plain]
    deep = ()
    for _ in range(4):
        deep = (deep, [deep], {"x": deep})
    return plain + nested + [deep, ((((((("x",),),),),),),)]
