"""2.1: lots and corners."""

import unittest

from cornerbids.corners import corner, corners
from cornerbids.errors import NoLot
from cornerbids.rules import Rule
from tests import naive
from tests.things import MEAN2, MEAN3, deep_term, rules, spoiled, unchecked


class TestCorners(unittest.TestCase):
    def test_of_a_mean(self):
        told = {(): (0, 1), (0,): (1, 3), (1,): (1, 3), (2,): (1, 3), (0, 1): (2, 3), (0, 2): (2, 3), (1, 2): (2, 3),
                (0, 1, 2): (1, 1)}
        self.assertEqual(corners(MEAN3), told)
        for lot, number in told.items():
            self.assertEqual(corner(MEAN3, lot), number)

    def test_one_person_and_six(self):
        rule = Rule(1, ("between", (1, 4), (2, 3), ("bid", 0)))
        self.assertEqual(corners(rule), {(): (1, 4), (0,): (2, 3)})
        self.assertEqual(len(corners(Rule(6, ("bid", 3)))), 64)

    def test_by_chance(self):
        for _, rule in rules(11, 60):
            told = corners(rule)
            lots = naive.all_lots(rule.people)
            self.assertEqual(told, {lot: naive.pair(naive.corner(rule, lot)) for lot in lots})
            for lot in lots:
                self.assertEqual(corner(rule, lot), told[lot])

    def test_each_dict_is_new(self):
        one = corners(MEAN2)
        one.clear()
        self.assertEqual(len(corners(MEAN2)), 4)

    def test_rules_beyond_the_bounds(self):
        rule = unchecked(2, deep_term(60))
        self.assertEqual(corner(rule, (1,)), naive.pair(naive.corner(rule, (1,))))
        self.assertEqual(len(corners(rule)), 4)

    def test_no_lot(self):
        wrong = [(3,), (-1,), (0, 0), (1, 0), (0, 1, 3), (0, 1, 2, 3), (True,), (0, True), (False,), [0], [], {}, None, 0]
        for lot in wrong + spoiled((0, 2)) + spoiled((1,)):
            self.assertRaises(NoLot, corner, MEAN3, lot)


if __name__ == "__main__":
    unittest.main()
