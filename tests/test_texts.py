"""14.1: the texts of rules."""

import unittest
from math import gcd

from cornerbids.reading import read_rule
from cornerbids.rules import Rule
from cornerbids.texts import rule_text
from tests.things import MEAN3, nested, rules, unchecked

ZERO, HALF, ONE = (0, 1), (1, 2), (1, 1)
BOTH = (("bid", 0), ("bid", 1))
TEXTS = [
    (MEAN3, "3 mean(1*b0, 1*b1, 1*b2)"),
    (Rule(1, ("bid", 0)), "1 b0"),
    (Rule(6, ("bid", 5)), "6 b5"),
    (Rule(1, ("fixed", ZERO)), "1 0"),
    (Rule(1, ("fixed", ONE)), "1 1"),
    (Rule(1, ("fixed", HALF)), "1 1/2"),
    (Rule(2, ("fixed", (123, 4567))), "2 123/4567"),
    (Rule(2, ("mean", ((99, ("bid", 1)),))), "2 mean(99*b1)"),
    (Rule(2, ("mean", ((10, ("bid", 1)), (3, ("fixed", (2, 3)))))), "2 mean(10*b1, 3*2/3)"),
    (Rule(2, ("least", BOTH)), "2 least(b0, b1)"),
    (Rule(2, ("least", BOTH[:1])), "2 least(b0)"),
    (Rule(2, ("greatest", BOTH)), "2 greatest(b0, b1)"),
    (Rule(2, ("ranked", 2, BOTH)), "2 ranked(2; b0, b1)"),
    (Rule(2, ("ranked", 1, BOTH[1:])), "2 ranked(1; b1)"),
    (Rule(2, ("between", ZERO, (2, 3), ("bid", 1))), "2 between(0, 2/3; b1)"),
    (Rule(2, ("between", ONE, ONE, ("fixed", ZERO))), "2 between(1, 1; 0)"),
    (Rule(2, ("greatest", (("least", BOTH), ("mean", ((1, ("ranked", 2, BOTH)), (2, ("between", (1, 4), HALF, ("fixed", ONE)))))))),
     "2 greatest(least(b0, b1), mean(1*ranked(2; b0, b1), 2*between(1/4, 1/2; 1)))"),
]


class TestRuleText(unittest.TestCase):
    def test_each_kind_of_term(self):
        for made, text in TEXTS:
            self.assertEqual(rule_text(made), text)

    def test_reading_back_gives_an_equal_rule(self):
        for made, text in TEXTS:
            self.assertEqual(read_rule(text), made)
        for _, made in rules(181, 400, depth=4):
            self.assertEqual(read_rule(rule_text(made)), made)

    def test_one_blank_behind_each_comma_and_semicolon_and_nowhere_else(self):
        for _, made in rules(182, 100, depth=4):
            people, text = rule_text(made).split(" ", 1)
            self.assertEqual(people, str(made.people))
            bare = text.replace(", ", ",").replace("; ", ";")
            self.assertNotIn(" ", bare)
            self.assertEqual(bare.replace(",", ", ").replace(";", "; "), text)

    def test_rules_beyond_the_bounds(self):
        made = unchecked(1, nested(("bid", 0), 59, lambda term: ("least", (term,))))
        self.assertEqual(rule_text(made), "1 " + "least(" * 59 + "b0" + ")" * 59)
        made = unchecked(2, ("greatest", BOTH * 50))
        self.assertEqual(rule_text(made), "2 greatest(" + ", ".join(["b0, b1"] * 50) + ")")

    def test_integers_of_any_size_are_decimal(self):
        for top, bottom in ((10 ** 64 - 1, 10 ** 64), (10 ** 64, 10 ** 64 + 1), (10 ** 128 + 7, 10 ** 129), (1, 10 ** 199)):
            self.assertEqual(gcd(top, bottom), 1)
            self.assertEqual(rule_text(Rule(1, ("fixed", (top, bottom)))), f"1 {top}/{bottom}")
        # More digits than Python itself writes: what was returned may have them.
        top, bottom = 10 ** 9000 + 1, 10 ** 9001
        self.assertEqual(rule_text(Rule(1, ("fixed", (top, bottom)))), "1 1" + "0" * 8999 + "1/1" + "0" * 9001)


if __name__ == "__main__":
    unittest.main()
