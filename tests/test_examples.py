"""The examples of the document, as they stand."""

import unittest

from cornerbids.corners import corner
from cornerbids.outcomes import outcome, sides
from cornerbids.rules import Rule, value

m = Rule(3, ("mean", ((1, ("bid", 0)), (1, ("bid", 1)), (1, ("bid", 2)))))
w = ((0, 1), (1, 2), (1, 1))


class TestExamples(unittest.TestCase):
    def test_e01(self):
        self.assertEqual(value(m, w), (1, 2))

    def test_e02(self):
        self.assertEqual(corner(m, (0, 2)), (2, 3))

    def test_e03(self):
        self.assertEqual(outcome(m, w), (1, 2))
        self.assertEqual(sides(m, w), ((0,), (1,), (2,)))

    def test_e04(self):
        rule = Rule(3, ("mean", ((2, ("bid", 0)), (1, ("bid", 1)), (1, ("bid", 2)))))
        self.assertEqual(outcome(rule, ((1, 5), (9, 10), (9, 10))), (1, 2))


if __name__ == "__main__":
    unittest.main()
