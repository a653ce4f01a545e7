"""The limits are as the document tells them."""

import unittest

from commonanswer import limits


class Limits(unittest.TestCase):
    def test_limits_are_as_told(self):
        told = {
            "MOST_UNKNOWNS": 3,
            "MOST_ROWS": 6,
            "MOST_NUMBER": 10000,
            "MOST_COST": 1000,
            "MOST_SEEN": 8,
            "MOST_STEPS": 1000,
            "MOST_CHANGES": 5,
            "MOST_DEMANDS": 5,
        }
        self.assertEqual({name: getattr(limits, name) for name in told}, told)
        for name in told:
            self.assertIs(int, getattr(limits, name).__class__)
