"""9.1: own stretches."""

import unittest
from fractions import Fraction
from itertools import product

from cornerbids.errors import NoNumber, NoStretches, NoWishes
from cornerbids.outcomes import outcome
from cornerbids.rests import is_rest
from cornerbids.rules import Rule, value
from cornerbids.stretches import around, is_rest_within, outcome_within, rest_within
from tests import naive
from tests.things import MEAN2, MEAN3, deep_term, number, numbers, rules, spoiled, spoiled_stretches, stretches, unchecked

ZERO, HALF, ONE = (0, 1), (1, 2), (1, 1)
WHOLE = (ZERO, ONE)
LEFT_OUT = (((1, 4), ONE), WHOLE)
WISHES = (ZERO, HALF, ONE)
SOME = (((1, 4), (1, 3)), (HALF, HALF), (ZERO, (3, 4)))


def inside(bids, given):
    return all(Fraction(*low) <= Fraction(*bid) <= Fraction(*high) for bid, (low, high) in zip(bids, given))


def naive_rest(made, wishes, given, bids):
    """Whether bids within the stretches are such a rest, as 9.1 tells it."""
    told = naive.value(made, bids)
    more = [pair[1] if Fraction(*wish) > told else bid for bid, wish, pair in zip(bids, wishes, given)]
    less = [pair[0] if Fraction(*wish) < told else bid for bid, wish, pair in zip(bids, wishes, given)]
    return inside(bids, given) and naive.value(made, more) == told == naive.value(made, less)


class TestAround(unittest.TestCase):
    def test_ordinary_ones(self):
        self.assertEqual(around(WISHES, (1, 4)), ((ZERO, (1, 4)), ((1, 4), (3, 4)), ((3, 4), ONE)))
        self.assertEqual(around(((1, 3),), (1, 6)), (((1, 6), HALF),))
        self.assertEqual(around(WISHES, ZERO), tuple((wish, wish) for wish in WISHES))
        self.assertEqual(around(((1, 3),) * 6, ONE), (WHOLE,) * 6)
        self.assertEqual(around((HALF,), HALF), (WHOLE,))
        self.assertEqual(around(((1, 10),), (1, 5)), ((ZERO, (3, 10)),))

    def test_by_chance(self):
        for rng, made in rules(121, 60):
            wishes, far = numbers(rng, made.people), number(rng)
            for (low, high), wish in zip(around(wishes, far), wishes):
                for bid in [Fraction(at, 60) for at in range(61)]:
                    near = abs(bid - Fraction(*wish)) <= Fraction(*far)
                    self.assertEqual(Fraction(*low) <= bid <= Fraction(*high), near)

    def test_errors_in_their_order(self):
        for wrong in spoiled(WISHES) + [(), (ZERO,) * 7, [ZERO], {ZERO: ZERO}]:
            self.assertRaises(NoWishes, around, wrong, None)
        for wrong in spoiled(HALF) + [(2, 4), (3, 2), (-1, 2)]:
            self.assertRaises(NoNumber, around, WISHES, wrong)


class TestOutcomeWithin(unittest.TestCase):
    def test_ordinary_ones(self):
        self.assertEqual(outcome_within(MEAN2, (ZERO, ONE), LEFT_OUT), (5, 8))
        self.assertEqual(outcome_within(MEAN2, (ONE, ONE), ((ZERO, (1, 3)), (ZERO, HALF))), (5, 12))
        self.assertEqual(outcome_within(MEAN2, (ZERO, ZERO), ((ZERO, (1, 3)), (HALF, ONE))), (1, 4))
        self.assertEqual(outcome_within(MEAN2, (HALF, ONE), (WHOLE, WHOLE)), HALF)
        self.assertEqual(outcome_within(Rule(1, ("bid", 0)), ((1, 5),), ((HALF, (3, 4)),)), HALF)

    def test_whole_stretches_and_stretches_of_one_bid(self):
        for rng, made in rules(122, 80):
            wishes, bids = numbers(rng, made.people), numbers(rng, made.people)
            self.assertEqual(outcome_within(made, wishes, (WHOLE,) * made.people), outcome(made, wishes))
            alone = tuple((bid, bid) for bid in bids)
            self.assertEqual(outcome_within(made, wishes, alone), value(made, bids))

    def test_by_chance(self):
        for rng, made in rules(123, 200):
            wishes, given = numbers(rng, made.people), stretches(rng, made.people)
            told = outcome_within(made, wishes, given)
            self.assertEqual(told, naive.pair(naive.within(made, wishes, given)))
            self.assertTrue(naive.is_within(made, wishes, given, Fraction(*told)))

    def test_wishes_at_the_number(self):
        for rng, made in rules(124, 60):
            given = stretches(rng, made.people)
            wish = outcome_within(made, numbers(rng, made.people), given)
            told = outcome_within(made, (wish,) * made.people, given)
            self.assertTrue(naive.is_within(made, (wish,) * made.people, given, Fraction(*told)))


class TestRestWithin(unittest.TestCase):
    def test_by_chance(self):
        for rng, made in rules(125, 200):
            given = stretches(rng, made.people)
            wishes = rng.choice([numbers(rng, made.people), numbers(rng, made.people, 2)])
            self.check(made, wishes, given)

    def test_wishes_at_the_number_and_of_0_and_1(self):
        for rng, made in rules(126, 60):
            given = stretches(rng, made.people)
            wish = outcome_within(made, numbers(rng, made.people), given)
            mixed = tuple(rng.choice((wish, ZERO, ONE)) for _ in range(made.people))
            for wishes in ((wish,) * made.people, mixed, (ZERO,) * made.people, (ONE,) * made.people):
                self.check(made, wishes, given)
                self.check(made, wishes, (WHOLE,) * made.people)

    def check(self, made, wishes, given):
        bids = rest_within(made, wishes, given)
        told = outcome_within(made, wishes, given)
        self.assertIs(type(bids), tuple)
        self.assertEqual(len(bids), made.people)
        self.assertTrue(inside(bids, given))
        self.assertEqual(value(made, bids), told)
        for bid, wish, (low, high) in zip(bids, wishes, given):
            if Fraction(*wish) > Fraction(*told):
                self.assertEqual(bid, high)
            if Fraction(*wish) < Fraction(*told):
                self.assertEqual(bid, low)
        self.assertIs(is_rest_within(made, wishes, given, bids), True)
        self.assertTrue(naive_rest(made, wishes, given, bids))

    def test_stretches_of_one_bid_alone(self):
        self.assertEqual(rest_within(MEAN3, WISHES, (((1, 5), (1, 5)),) * 3), ((1, 5),) * 3)

    def test_deep_rules(self):
        made = unchecked(2, deep_term(60))
        self.check(made, ((1, 3), (2, 3)), (((1, 4), HALF), WHOLE))


class TestIsRestWithin(unittest.TestCase):
    def test_ordinary_ones(self):
        wishes = (ZERO, ONE)
        self.assertIs(is_rest_within(MEAN2, wishes, LEFT_OUT, ((1, 4), ONE)), True)
        self.assertIs(is_rest_within(MEAN2, wishes, LEFT_OUT, ((1, 3), ONE)), False)
        self.assertIs(is_rest_within(MEAN2, wishes, LEFT_OUT, ((1, 4), (99, 100))), False)
        # Outside of the stretches.
        self.assertIs(is_rest_within(MEAN2, wishes, LEFT_OUT, (ZERO, ONE)), False)
        self.assertIs(is_rest_within(MEAN2, wishes, ((ZERO, HALF), (ZERO, HALF)), (ZERO, ONE)), False)
        fixed = Rule(2, ("fixed", HALF))
        self.assertIs(is_rest_within(fixed, wishes, SOME[:2], ((1, 4), HALF)), True)
        self.assertIs(is_rest_within(fixed, wishes, SOME[:2], ((1, 3), (49, 100))), False)
        self.assertIs(is_rest_within(fixed, wishes, SOME[:2], ((1, 5), HALF)), False)

    def test_ninth_fact_by_chance(self):
        seen = {True: 0, False: 0}
        for rng, made in rules(127, 120, depth=2):
            wishes, given = numbers(rng, made.people, 3), stretches(rng, made.people, 3)
            for _ in range(12):
                bids = tuple(rng.choice(((pair[0]), pair[1], number(rng, 3))) for pair in given)
                told = is_rest_within(made, wishes, given, bids)
                self.assertIs(told, naive_rest(made, wishes, given, bids))
                seen[told] += 1
                if told:
                    self.assertEqual(value(made, bids), outcome_within(made, wishes, given))
        self.assertGreater(min(seen.values()), 50)

    def test_within_whole_stretches_it_is_a_rest(self):
        grid = (ZERO, HALF, ONE)
        for rng, made in rules(128, 40, 2):
            wishes = numbers(rng, 2, 3)
            for bids in product(grid, repeat=2):
                self.assertIs(is_rest_within(made, wishes, (WHOLE, WHOLE), bids), is_rest(made, wishes, bids))

    def test_judges_any_object(self):
        right = rest_within(MEAN3, WISHES, SOME)
        self.assertIs(is_rest_within(MEAN3, WISHES, SOME, right), True)
        for thing in spoiled(right) + [right[:2], right * 2, ()]:
            self.assertIs(is_rest_within(MEAN3, WISHES, SOME, thing), False)
            self.assertIs(is_rest_within(Rule(3, ("fixed", HALF)), WISHES, SOME, thing), False)


class TestErrors(unittest.TestCase):
    def test_errors_in_their_order(self):
        for wrong in spoiled(WISHES) + [WISHES[:2], WISHES * 2, ()]:
            self.assertRaises(NoWishes, outcome_within, MEAN3, wrong, None)
            self.assertRaises(NoWishes, rest_within, MEAN3, wrong, None)
            self.assertRaises(NoWishes, is_rest_within, MEAN3, wrong, None, None)
        for wrong in spoiled_stretches(SOME) + [WHOLE, WISHES, (WISHES,) * 3, ((ONE, ZERO),) * 3]:
            self.assertRaises(NoStretches, outcome_within, MEAN3, WISHES, wrong)
            self.assertRaises(NoStretches, rest_within, MEAN3, WISHES, wrong)
            self.assertRaises(NoStretches, is_rest_within, MEAN3, WISHES, wrong, None)


if __name__ == "__main__":
    unittest.main()
