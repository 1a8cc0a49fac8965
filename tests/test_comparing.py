"""7.1 and 7.2: rules compared."""

import unittest
from fractions import Fraction
from itertools import product

from cornerbids.comparing import alike, cousin, never_less, parting
from cornerbids.corners import corner, corners
from cornerbids.errors import OtherPeople
from cornerbids.lines import line
from cornerbids.outcomes import outcome
from cornerbids.rules import Rule, mirrored, renamed, value
from tests import naive
from tests.things import MEAN2, MEAN3, chance, deep_term, numbers, rule, rules, unchecked

ZERO, HALF, ONE = (0, 1), (1, 2), (1, 1)
LEAST = Rule(2, ("least", (("bid", 0), ("bid", 1))))
GREATEST = Rule(2, ("greatest", (("bid", 0), ("bid", 1))))
MIDDLE = Rule(2, ("ranked", 2, (("bid", 0), ("bid", 1), ("fixed", HALF))))
FIRST = Rule(2, ("bid", 0))
ALIKE = [
    (MEAN2, MIDDLE), (MEAN2, Rule(2, ("mean", ((7, ("bid", 1)), (7, ("bid", 0)))))), (MEAN2, cousin(MEAN2)),
    (Rule(1, ("bid", 0)), Rule(1, ("least", (("bid", 0), ("bid", 0))))),
    (Rule(1, ("mean", ((1, ("bid", 0)), (1, ("fixed", HALF))))), Rule(1, ("between", (1, 4), (3, 4), ("bid", 0)))),
    (Rule(2, ("fixed", HALF)), Rule(2, ("between", HALF, HALF, ("bid", 1)))),
]
UNLIKE = [
    (LEAST, GREATEST, (0,)), (FIRST, Rule(2, ("bid", 1)), (0,)), (MEAN2, LEAST, (0,)), (MEAN2, GREATEST, (0,)),
    (Rule(1, ("bid", 0)), Rule(1, ("fixed", ZERO)), (0,)), (Rule(1, ("bid", 0)), Rule(1, ("fixed", ONE)), ()),
    (FIRST, Rule(2, ("greatest", (("bid", 0), ("least", (("bid", 1), ("fixed", HALF)))))), (1,)),
    (LEAST, Rule(2, ("least", (("bid", 0), ("bid", 1), ("fixed", HALF)))), (0, 1)),
    (MEAN3, Rule(3, ("mean", ((1, ("bid", 0)), (2, ("bid", 1)), (0 + 3, ("bid", 2))))), (0,)),
    (Rule(3, ("least", (("bid", 0), ("bid", 2)))), Rule(3, ("least", (("bid", 1), ("bid", 2)))), (0, 2)),
    (Rule(3, ("fixed", HALF)), Rule(3, ("between", HALF, (3, 4), ("least", (("bid", 1), ("bid", 2))))), (1, 2)),
]


def pairs(seed, many, people=None):
    """Two rules of as many people by chance, sometimes the same but for a name."""
    for rng, one in rules(seed, many, people):
        other = rule(rng, one.people) if rng.random() < 0.7 else renamed(one, tuple(sorted(
            range(one.people), key=lambda person: rng.random())))
        yield rng, one, other


class TestAlike(unittest.TestCase):
    """7.1"""

    def test_ordinary_ones(self):
        for one, other in ALIKE:
            self.assertIs(alike(one, other), True)
            self.assertIsNone(parting(one, other))
            self.assertIs(never_less(one, other), True)
        for one, other, lot in UNLIKE:
            self.assertIs(alike(one, other), False)
            self.assertEqual(parting(one, other), lot)
            self.assertEqual(parting(other, one), lot)

    def test_the_lot_of_the_fewest_people_comes_first(self):
        # Unlike at (0, 1) and at (2,): the fewest people count ahead of the least tuple.
        one = Rule(3, ("greatest", (("least", (("bid", 0), ("bid", 1))), ("bid", 2))))
        self.assertEqual(parting(one, Rule(3, ("fixed", ZERO))), (2,))
        six = Rule(6, ("least", tuple(("bid", person) for person in range(6))))
        self.assertEqual(parting(six, Rule(6, ("fixed", ZERO))), (0, 1, 2, 3, 4, 5))

    def test_seventh_fact_by_chance(self):
        seen = {True: 0, False: 0}
        for rng, one, other in pairs(101, 200):
            told = alike(one, other)
            seen[told] += 1
            lot = parting(one, other)
            self.assertIs(told, lot is None)
            unlike = [lot for lot in naive.all_lots(one.people) if naive.corner(one, lot) != naive.corner(other, lot)]
            self.assertEqual(lot, unlike[0] if unlike else None)
            if told:
                for _ in range(10):
                    wishes = numbers(rng, one.people)
                    self.assertEqual(outcome(one, wishes), outcome(other, wishes))
            else:
                wishes = tuple(ONE if person in lot else ZERO for person in range(one.people))
                self.assertEqual([outcome(one, wishes), outcome(other, wishes)], [corner(one, lot), corner(other, lot)])
                self.assertNotEqual(outcome(one, wishes), outcome(other, wishes))
        self.assertGreater(min(seen.values()), 20)

    def test_flags(self):
        self.assertIs(type(alike(MEAN2, LEAST)), bool)
        self.assertIs(type(never_less(MEAN2, LEAST)), bool)


class TestNeverLess(unittest.TestCase):
    """7.1, of never_less"""

    def test_ordinary_ones(self):
        self.assertIs(never_less(GREATEST, MEAN2), True)
        self.assertIs(never_less(MEAN2, GREATEST), False)
        self.assertIs(never_less(MEAN2, LEAST), True)
        self.assertIs(never_less(FIRST, Rule(2, ("bid", 1))), False)
        self.assertIs(never_less(Rule(1, ("fixed", ONE)), Rule(1, ("bid", 0))), True)
        self.assertIs(never_less(Rule(1, ("bid", 0)), Rule(1, ("fixed", ZERO))), True)

    def test_by_chance(self):
        seen = {True: 0, False: 0}
        grid = [naive.pair(Fraction(at, 6)) for at in range(7)]
        for _, one, other in pairs(102, 120, 2):
            told = never_less(one, other)
            self.assertIs(told, all(naive.outcome(one, wishes) >= naive.outcome(other, wishes)
                                    for wishes in product(grid, repeat=2)))
            seen[told] += 1
        self.assertGreater(min(seen.values()), 10)

    def test_both_ways_exactly_if_alike(self):
        for _, one, other in pairs(103, 100):
            self.assertIs(never_less(one, other) and never_less(other, one), alike(one, other))
            # Seen from the other end what was never less is never more.
            self.assertIs(never_less(one, other), never_less(mirrored(other), mirrored(one)))


class TestOtherPeople(unittest.TestCase):
    def test_rules_of_unlike_numbers_of_people(self):
        for function in (alike, parting, never_less):
            for one, other in ((1, 2), (2, 1), (6, 5), (3, 6)):
                self.assertRaises(OtherPeople, function, Rule(one, ("bid", 0)), Rule(other, ("bid", 0)))
            function(Rule(6, ("bid", 0)), Rule(6, ("bid", 5)))


class TestCousin(unittest.TestCase):
    """7.2"""

    def test_tells_the_outcome_of_the_wishes_without_a_mean(self):
        for rng, made in rules(104, 150):
            found = cousin(made)
            self.assertIs(type(found), Rule)
            self.assertEqual(found.people, made.people)
            self.assertNotIn("mean", naive.words_in(found.term))
            for _ in range(8):
                wishes = numbers(rng, made.people)
                self.assertEqual(naive.value(found, wishes), naive.outcome(made, wishes))

    def test_wishes_and_bids_of_0_and_1(self):
        for people in (1, 6):
            for _, made in rules(105, 8, people):
                self.assertEqual(corners(cousin(made)), corners(made))

    def test_a_rule_for_every_function(self):
        rng = chance(106)
        made = Rule(6, ("mean", tuple((person + 1, ("bid", person)) for person in range(6))))
        found = cousin(made)
        wishes = numbers(rng, 6)
        self.assertIs(alike(found, made), True)
        self.assertEqual(outcome(found, wishes), outcome(made, wishes))
        self.assertEqual(line(found, wishes, 5)[0][1], value(found, wishes[:5] + (ZERO,)))
        self.assertIs(alike(cousin(found), made), True)
        self.assertIs(alike(mirrored(mirrored(found)), made), True)

    def test_its_terms_are_terms(self):
        def check(term, people):
            self.assertIs(type(term), tuple)
            if term[0] in ("least", "greatest"):
                self.assertTrue(1 <= len(term[1]) <= 8)
                for inner in term[1]:
                    check(inner, people)
            else:
                Rule(people, term)

        for _, made in rules(107, 40):
            check(cousin(made).term, made.people)

    def test_deep_rules(self):
        made = unchecked(2, deep_term(60))
        self.assertIs(alike(made, cousin(made)), True)


if __name__ == "__main__":
    unittest.main()
