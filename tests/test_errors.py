"""[4] and the list of errors: how they are made, what they keep, and under which base class they stand."""

import unittest

from commonanswer import errors
from tests.samples import odd_values

BASES = {"BadValue": ValueError, "BadName": LookupError, "NoAnswer": ArithmeticError}
LISTED = {
    "BadValue": {
        "given": [
            "InvalidText", "InvalidName", "InvalidAnswer", "InvalidCosts", "InvalidSteps", "InvalidIndex",
            "InvalidRow", "InvalidStretch", "InvalidChange", "InvalidDemand", "NotASystem", "OtherUnknowns",
        ],
        "index": ["InvalidUnknowns", "InvalidRows", "InvalidSeen", "InvalidChanges", "InvalidDemands"],
        None: [],
    },
    "BadName": {"given": ["UnknownName"], "index": ["InUse"], None: []},
    "NoAnswer": {"given": [], "index": ["Broken"], None: ["NothingToUndo", "NoSure", "NoPossible"]},
}
ROWS = [
    (getattr(errors, name), getattr(errors, base), attribute)
    for base, kinds in LISTED.items() for attribute, names in kinds.items() for name in names
]
ATTRIBUTES = ("given", "index")


class Errors(unittest.TestCase):
    def test_each_class_is_defined_in_this_module_and_no_other_one(self):
        told = set(BASES) | {kind.__name__ for kind, _, _ in ROWS}
        there = {name for name, value in vars(errors).items() if isinstance(value, type)}
        self.assertEqual(there, told)
        for name in told:
            self.assertEqual(getattr(errors, name).__module__, "commonanswer.errors")

    def test_base_classes(self):
        for name, parent in BASES.items():
            base = getattr(errors, name)
            self.assertEqual(base.__bases__, (parent,))
            error = base()
            self.assertEqual([hasattr(error, attribute) for attribute in ATTRIBUTES], [False, False])

    def test_each_class_belongs_to_its_base_class_and_to_no_other_one(self):
        for kind, base, _ in ROWS:
            own = [parent for parent in kind.__mro__ if parent.__module__ == "commonanswer.errors"]
            self.assertEqual(own, [kind, base])

    def test_attribute_is_kept_whatever_it_is(self):
        for kind, base, attribute in ROWS:
            if attribute is None:
                continue
            for value in odd_values() + [10 ** 5000, kind, kind(None)]:
                for error in (kind(value), kind(**{attribute: value})):
                    self.assertIs(getattr(error, attribute), value)
                    self.assertEqual([name for name in ATTRIBUTES if hasattr(error, name)], [attribute])
                    self.assertTrue(error)
            with self.assertRaises(base) as caught:
                raise kind("some")
            self.assertEqual(getattr(caught.exception, attribute), "some")

    def test_attribute_has_to_be_told_once(self):
        for kind, _, attribute in ROWS:
            if attribute is None:
                continue
            other = "index" if attribute == "given" else "given"
            with self.assertRaises(TypeError):
                kind()
            with self.assertRaises(TypeError):
                kind(**{other: 1})
            with self.assertRaises(TypeError):
                kind(1, 2)

    def test_errors_without_an_attribute(self):
        for kind, base, attribute in ROWS:
            if attribute is None:
                error = kind()
                self.assertEqual([hasattr(error, name) for name in ATTRIBUTES], [False, False])
                self.assertTrue(error)
                with self.assertRaises(base):
                    raise kind()

    def test_two_errors_are_not_equal(self):
        for kind, _, attribute in ROWS:
            told = () if attribute is None else (1,)
            self.assertFalse(kind(*told) == kind(*told))
            self.assertFalse(kind(*told) == 1)
