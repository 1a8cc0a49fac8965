"""The examples of the document, as they stand."""

import unittest

from cornerbids.chances import likely_at_least
from cornerbids.comparing import alike
from cornerbids.corners import corner, corners
from cornerbids.drawing import most_drawn
from cornerbids.holders import least_lots, swings
from cornerbids.honest import best_for, honest_at
from cornerbids.houses import split
from cornerbids.lines import line
from cornerbids.logs import may_stand
from cornerbids.outcomes import outcome, sides
from cornerbids.plain import weights
from cornerbids.plays import best_bids
from cornerbids.quotas import is_scale, trade
from cornerbids.ranges import wish_bounds
from cornerbids.rests import is_rest
from cornerbids.rules import Rule, value
from cornerbids.stretches import outcome_within
from cornerbids.tables import weights_of
from cornerbids.talks import move
from cornerbids.texts import rule_text
from cornerbids.tidy import tidied

m = Rule(3, ("mean", ((1, ("bid", 0)), (1, ("bid", 1)), (1, ("bid", 2)))))
w = ((0, 1), (1, 2), (1, 1))
n = Rule(2, ("mean", ((1, ("bid", 0)), (1, ("bid", 1)))))
o = ((0, 1), (0, 1))


class TestExamples(unittest.TestCase):
    def test_e01(self):
        self.assertEqual(value(m, w), (1, 2))

    def test_e02(self):
        self.assertEqual(corner(m, (0, 2)), (2, 3))

    def test_e03(self):
        self.assertEqual(outcome(m, w), (1, 2))
        self.assertEqual(sides(m, w), ((0,), (1,), (2,)))

    def test_e04(self):
        rule = Rule(3, ("mean", ((2, ("bid", 0)), (1, ("bid", 1)), (1, ("bid", 2)))))
        self.assertEqual(outcome(rule, ((1, 5), (9, 10), (9, 10))), (1, 2))

    def test_e05(self):
        rule = Rule(2, ("least", (("bid", 0), ("bid", 1))))
        told = (((0, 1), (0, 1)), ((1, 2), (1, 2)), ((1, 1), (1, 2)))
        self.assertEqual(line(rule, ((0, 1), (1, 2)), 0), told)

    def test_e06(self):
        self.assertEqual(best_bids(m, w, (0, 1, 2), ()), ((0, 1), (1, 2)))

    def test_e07(self):
        self.assertIs(is_rest(m, w, w), True)

    def test_e08(self):
        rule = Rule(1, ("mean", ((1, ("bid", 0)), (1, ("fixed", (1, 1))))))
        self.assertEqual(weights(rule), (((1, 2),), (1, 2)))

    def test_e09(self):
        self.assertEqual(most_drawn(m), (2, 9))

    def test_e10(self):
        self.assertIs(alike(n, Rule(2, ("ranked", 2, (("bid", 0), ("bid", 1), ("fixed", (1, 2)))))), True)

    def test_e11(self):
        self.assertEqual(best_for(n, o, 0, (1, 4)), ((1, 2), (1, 2)))
        self.assertIs(honest_at(n, o, 0), False)

    def test_e12(self):
        self.assertEqual(outcome_within(n, ((0, 1), (1, 1)), (((1, 4), (1, 1)), ((0, 1), (1, 1)))), (5, 8))

    def test_e13(self):
        self.assertEqual(weights_of(2, corners(n)), (((1, 2), (1, 2)), (0, 1)))

    def test_e14(self):
        self.assertEqual(wish_bounds(n, 0, (1, 4)), ((0, 1), (1, 4)))

    def test_e15(self):
        self.assertEqual(rule_text(m), "3 mean(1*b0, 1*b1, 1*b2)")

    def test_e16(self):
        self.assertEqual(likely_at_least(n, (((0, 1), (1, 1)), ((0, 1), (1, 1))), (1, 2)), (3, 4))

    def test_e17(self):
        self.assertEqual(least_lots(m, (1, 2)), [(0, 1), (0, 2), (1, 2)])
        self.assertEqual(swings(m, (1, 2)), (2, 2, 2))

    def test_e18(self):
        self.assertEqual(may_stand(((n, (1, 4)),), 0), [0, 1])

    def test_e19(self):
        self.assertEqual(move(n, ((1, 4), (0, 1)), o, 0), ((1, 2), (0, 1)))

    def test_e20(self):
        rule = Rule(2, ("least", (("bid", 0), ("least", (("bid", 1), ("bid", 0))))))
        self.assertEqual(tidied(rule), Rule(2, ("least", (("bid", 0), ("bid", 1)))))

    def test_e21(self):
        self.assertIs(is_scale(m, (1, 2), ((1, 1, 1), 2)), True)
        self.assertIsNone(trade(m, (1, 2)))

    def test_e22(self):
        self.assertEqual(outcome(split(n, 0), ((1, 4), (1, 1), (1, 4))), (1, 2))


if __name__ == "__main__":
    unittest.main()
