"""What tests of desks, shelves and consoles ask of errors."""

import unittest

from commonanswer.errors import BadName, BadValue, NoAnswer


class Raising(unittest.TestCase):
    def raised(self, told, call, *passed, **named):
        """The call raises just this error, which tells the very values."""
        kind, values = told
        with self.assertRaises(kind) as caught:
            call(*passed, **named)
        error = caught.exception
        self.assertIs(error.__class__, kind)
        self.assertEqual([isinstance(error, own) for own in (BadValue, BadName, NoAnswer)].count(True), 1)
        self.assertEqual(list(vars(error)), list(values))
        for word, value in values.items():
            self.assertIs(vars(error)[word], value)
