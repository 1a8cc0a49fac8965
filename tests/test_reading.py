"""14.2: rules read from texts."""

import unittest

from cornerbids.comparing import cousin
from cornerbids.errors import BadRule, BadText, BidError
from cornerbids.reading import read_rule
from cornerbids.rules import Rule
from cornerbids.texts import rule_text
from tests.grammar import bad_at
from tests.things import MEAN3, ODD, chance, rules

BAD = [
    ("", 1), ("1", 2), ("1 ", 3), ("1 b", 4), (" 1 b0", 1), ("1  b0", 3), ("1 b0 ", 5), ("1 b0\n", 5), ("\t1 b0", 1), ("1\tb0", 2),
    ("x", 1), ("1 x", 3), ("1 B0", 3), ("1 b0b1", 5), ("1 b0)", 5), ("1 b0,", 5), ("-1 b0", 1), ("+1 b0", 1), ("1 b-1", 4), ("1 (b0)", 3),
    # Integers: needless zeros, and more than 7 digits.
    ("01 b0", 2), ("00 b0", 2), ("12345678 b0", 8), ("1 b00", 5), ("1 b01", 5), ("1 b12345678", 11), ("1 ranked(01; b0)", 11),
    ("1 ranked(12345678; b0)", 17), ("1 mean(00*b0)", 9), ("1 mean(12345678*b0)", 15), ("1 12345678/3", 10), ("1 1/12345678", 12),
    ("1 01", 4), ("1 1/03", 6),
    # Numbers that are none, told at the sign behind them.
    ("1 2", 4), ("1 2/4", 6), ("1 0/1", 6), ("1 1/1", 6), ("1 1/0", 6), ("1 0/0", 6), ("1 3/2", 6), ("1 10", 5), ("1 1234567", 10),
    ("1 7654321/1234567", 18), ("1 2/4)", 6), ("1 between(2/4, 1; b0)", 14), ("1 between(0, 3/2; b0)", 17),
    ("1 between(2, 1; b0)", 12), ("1 mean(1*2/2, b0)", 13), ("1 0/5", 6), ("1 least(5/5)", 12),
    # Texts that end too early, or in the midst of a number.
    ("1 1/", 5), ("1 0/", 5), ("1 2/", 5), ("1 2/x", 5), ("1 1/ 2", 5), ("1 1/2/3", 6), ("1 0.5", 4), ("1 m", 4), ("1 mean", 7), ("1 mean(", 8),
    ("1 mean(1", 9), ("1 mean(1*", 10), ("1 mean(1*b0", 12), ("1 mean(1*b0,", 13), ("1 mean(1*b0, ", 14), ("1 mean(1*b0, 1", 15),
    ("1 least(b0, ", 13), ("1 ranked(1", 11), ("1 ranked(1;", 12), ("1 ranked(1; ", 13), ("1 between(0", 12), ("1 between(0,", 13),
    ("1 between(0, 1", 15), ("1 between(0, 1; b0", 19), ("1 be", 5), ("1 between", 10),
    # Words and signs that are others.
    ("1 meen(1*b0)", 5), ("1 mean(b0)", 8), ("1 mean(1b0)", 9), ("1 mean(1/2*b0)", 9), ("1 mean(1*1*b0)", 11), ("1 mean(1 *b0)", 9),
    ("1 mean()", 8), ("1 least()", 9), ("1 greatest()", 12), ("1 ranked(; b0)", 10), ("1 ranked(1; )", 13), ("1 ranked(1, b0)", 11),
    ("1 ranked(1;b0)", 12), ("1 ranked(1/2; b0)", 11), ("1 ranked(b0, b1)", 10), ("1 between(0; b0)", 12), ("1 between(0, 1, b0)", 15),
    ("1 between(0, 1; )", 17), ("1 between(0, 1; b0, b0)", 19), ("1 between(b0, 1; b0)", 11), ("1 between(0,1; b0)", 13),
    ("1 least(b0,b0)", 12), ("1 least(b0,  b0)", 13), ("1 least(b0 , b0)", 11), ("1 least( b0)", 9), ("1 least(b0 )", 11), ("1 least (b0)", 8),
    ("1 least(b0; b0)", 11), ("1 least(1*b0)", 10), ("1 least(b0))", 12), ("1 least(b0) ", 12), ("1 bx", 4), ("1 bb0", 4), ("1 bid0", 4),
    ("1 l0", 4), ("1 fixed(0)", 3), ("1 least(b0,)", 12), ("1 Least(b0)", 3), ("1; b0", 2), ("1 beb0", 5),
]
BAD_RULES = [
    ("0 b0", "people"), ("7 b0", "people"), ("9999999 b0", "people"), ("1234567 b9999999", "people"), ("0 b9", "people"),
    ("1 b1", "term"), ("6 b6", "term"), ("1 b9999999", "term"), ("1 mean(0*b0)", "term"), ("1 mean(100*b0)", "term"),
    ("1 mean(9999999*b0)", "term"), ("1 ranked(0; b0)", "term"), ("1 ranked(2; b0)", "term"), ("1 ranked(9999999; b0)", "term"),
    ("1 between(1, 0; b0)", "term"), ("1 between(2/3, 1/2; b0)", "term"), ("1 least(" + ", ".join(["b0"] * 9) + ")", "term"),
    ("1 " + "least(" * 8 + "b0" + ")" * 8, "term"), ("1 mean(" + ", ".join(["1*b0"] * 9) + ")", "term"),
    ("1 least(" + ", ".join(["least(b0, b0, b0, b0, b0, b0, b0, b0)"] * 7) + ")", "term"),
]
SIGNS = " 0123456789/*,;()bmeanlstgrkdwx\n\t-~B"


class TestReadRule(unittest.TestCase):
    def at_of(self, text):
        """The place that BadText tells, or None if the text is one."""
        try:
            made = read_rule(text)
        except BadText as error:
            return error.at
        except BadRule:
            return None
        self.assertIs(type(made), Rule)
        self.assertEqual(rule_text(made), text)
        return None

    def test_the_shortest_texts(self):
        self.assertEqual(read_rule("1 0"), Rule(1, ("fixed", (0, 1))))
        self.assertEqual(read_rule("6 1"), Rule(6, ("fixed", (1, 1))))
        self.assertEqual(read_rule("1 b0"), Rule(1, ("bid", 0)))
        self.assertEqual(read_rule("3 mean(1*b0, 1*b1, 1*b2)"), MEAN3)

    def test_numbers_of_seven_digits(self):
        self.assertEqual(read_rule("1 1234567/7654321"), Rule(1, ("fixed", (1234567, 7654321))))
        self.assertEqual(read_rule("1 1/9999999"), Rule(1, ("fixed", (1, 9999999))))
        self.assertEqual(read_rule("1 between(1/9999999, 9999998/9999999; b0)"),
                         Rule(1, ("between", (1, 9999999), (9999998, 9999999), ("bid", 0))))

    def test_what_is_no_string(self):
        for thing in [thing for thing in ODD if not isinstance(thing, str)] + [1, ["1 b0"], ("1 b0",), b"1 b0", MEAN3]:
            with self.assertRaises(BadText) as caught:
                read_rule(thing)
            self.assertEqual(caught.exception.at, 0)

    def test_the_first_sign_that_cannot_stand_there(self):
        for text, at in BAD:
            with self.assertRaises(BadText, msg=text) as caught:
                read_rule(text)
            self.assertEqual(caught.exception.at, at, text)
            self.assertIs(type(caught.exception.at), int)
            # The same by the grammar of the tests, so that both are right.
            self.assertEqual(bad_at(text), at, text)

    def test_what_may_be_any_is_judged_behind_the_text(self):
        for text, part in BAD_RULES:
            with self.assertRaises(BadRule, msg=text) as caught:
                read_rule(text)
            self.assertEqual(caught.exception.part, part, text)
            # One sign too many, or one lacking: then that comes first.
            for wrong, at in ((text + ")", len(text) + 1), (text + " ", len(text) + 1), (text[:1], 2)):
                with self.assertRaises(BadText) as caught:
                    read_rule(wrong)
                self.assertEqual(caught.exception.at, at, wrong)

    def test_what_is_just_right(self):
        for text in ("1 " + "least(" * 7 + "b0" + ")" * 7, "1 mean(99*b0)", "1 least(" + ", ".join(["b0"] * 8) + ")",
                     "2 between(1/2, 1/2; b1)", "1 ranked(8; " + ", ".join(["b0"] * 8) + ")"):
            self.assertEqual(rule_text(read_rule(text)), text)

    def test_each_part_of_a_text(self):
        for _, made in rules(191, 60):
            text = rule_text(made)
            for many in range(len(text)):
                self.assertEqual(self.at_of(text[:many]), bad_at(text[:many]), text[:many])

    def test_texts_changed_by_chance(self):
        rng = chance(192)
        seen = {True: 0, False: 0}
        for _, made in rules(193, 500):
            text = rule_text(made)
            for _ in range(8):
                at = rng.randrange(len(text) + 1)
                sign = rng.choice(SIGNS + rng.choice(text) * 9)
                changed = rng.choice((text[:at] + sign + text[at:], text[:at] + sign + text[at + 1:], text[:at] + text[at + 1:],
                                      text[:at] + text[rng.randrange(len(text)):]))
                self.assertEqual(self.at_of(changed), bad_at(changed), changed)
                seen[bad_at(changed) is None] += 1
        self.assertGreater(min(seen.values()), 200)

    def test_any_string(self):
        rng = chance(194)
        for _ in range(3000):
            text = "".join(rng.choice(SIGNS) for _ in range(rng.randint(0, 6)))
            text = rng.choice(("", "1 ", "2 mean(1*", "1 between(", "3 ranked(")) + text
            self.assertEqual(self.at_of(text), bad_at(text), text)
        for thing in ODD:
            if isinstance(thing, str):
                self.assertRaises(BidError, read_rule, thing)

    def test_texts_of_any_depth(self):
        for many in (60, 1000, 20000):
            for word in ("least(", "mean(1*", "ranked(1; ", "between(0, 1; ", "greatest(b0, "):
                text = "1 " + word * many + "b0" + ")" * many
                self.assertRaises(BadRule, read_rule, text)
                for wrong in (text[:-1], text + ")", text[:-many], text[:-many - 1]):
                    with self.assertRaises(BadText) as caught:
                        read_rule(wrong)
                    self.assertEqual(caught.exception.at, len(text) + 1 if len(wrong) > len(text) else len(wrong) + 1)

    def test_texts_of_rules_that_are_too_large(self):
        made = cousin(Rule(6, ("mean", tuple((person + 1, ("bid", person)) for person in range(6)))))
        with self.assertRaises(BadRule) as caught:
            read_rule(rule_text(made))
        self.assertEqual(caught.exception.part, "term")


if __name__ == "__main__":
    unittest.main()
