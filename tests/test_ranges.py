"""12.1: wishes known in part."""

import unittest
from fractions import Fraction
from itertools import product

from cornerbids.errors import NoNumber, NoPerson, NoStretches
from cornerbids.outcomes import outcome
from cornerbids.ranges import range_of, wish_bounds, wishes_with
from cornerbids.rules import Rule
from tests import naive
from tests.things import (MEAN2, MEAN3, ODD, deep_term, number, numbers, rules, spoiled, spoiled_stretches, stretches,
                          unchecked)

ZERO, HALF, ONE = (0, 1), (1, 2), (1, 1)
WHOLE = (ZERO, ONE)
SOME = (((1, 4), (1, 3)), (HALF, HALF), (ZERO, (3, 4)))
BOUNDED = Rule(2, ("between", (1, 4), (3, 4), ("bid", 0)))
TINY = Fraction(1, 10 ** 6)


def inside(wishes, known):
    return all(Fraction(*low) <= Fraction(*wish) <= Fraction(*high) for wish, (low, high) in zip(wishes, known))


class TestRangeOf(unittest.TestCase):
    def test_ordinary_ones(self):
        self.assertEqual(range_of(MEAN2, (WHOLE, WHOLE)), (ZERO, ONE))
        self.assertEqual(range_of(MEAN2, ((ZERO, ZERO), WHOLE)), (ZERO, HALF))
        self.assertEqual(range_of(MEAN2, ((ONE, ONE), WHOLE)), (HALF, ONE))
        self.assertEqual(range_of(BOUNDED, (WHOLE, WHOLE)), ((1, 4), (3, 4)))
        self.assertEqual(range_of(MEAN3, SOME), ((1, 3), HALF))

    def test_stretches_of_one_number(self):
        for rng, made in rules(161, 60):
            wishes = numbers(rng, made.people)
            told = outcome(made, wishes)
            self.assertEqual(range_of(made, tuple((wish, wish) for wish in wishes)), (told, told))

    def test_by_chance(self):
        for rng, made in rules(162, 100):
            known = stretches(rng, made.people)
            low, high = range_of(made, known)
            self.assertEqual(low, naive.pair(naive.outcome(made, [pair[0] for pair in known])))
            self.assertEqual(high, naive.pair(naive.outcome(made, [pair[1] for pair in known])))
            for _ in range(10):
                wishes = tuple(rng.choice((*pair, naive.pair((Fraction(*pair[0]) + Fraction(*pair[1])) / 2))) for pair in known)
                self.assertTrue(Fraction(*low) <= naive.outcome(made, wishes) <= Fraction(*high))


class TestWishesWith(unittest.TestCase):
    def test_ordinary_ones(self):
        self.assertIsNone(wishes_with(MEAN2, ((ZERO, ZERO), WHOLE), (2, 3)))
        self.assertIsNone(wishes_with(BOUNDED, (WHOLE, WHOLE), (1, 5)))
        self.assertIsNone(wishes_with(MEAN3, SOME, (1, 4)))
        self.assertEqual(wishes_with(MEAN2, ((ZERO, ZERO), (ONE, ONE)), HALF), (ZERO, ONE))
        self.assertIsNone(wishes_with(MEAN2, ((ZERO, ZERO), (ONE, ONE)), (1, 3)))

    def test_by_chance(self):
        seen = {True: 0, False: 0}
        for rng, made in rules(163, 200):
            known = stretches(rng, made.people)
            low, high = range_of(made, known)
            between = naive.pair((Fraction(*low) + Fraction(*high)) / 2)
            for told in (low, high, between, number(rng), ZERO, ONE):
                wishes = wishes_with(made, known, told)
                there = Fraction(*low) <= Fraction(*told) <= Fraction(*high)
                self.assertIs(wishes is not None, there)
                seen[there] += 1
                if wishes is not None:
                    self.assertIs(type(wishes), tuple)
                    self.assertEqual(len(wishes), made.people)
                    self.assertTrue(inside(wishes, known))
                    self.assertEqual(naive.pair(naive.outcome(made, wishes)), told)
            for beyond in (Fraction(*low) - TINY, Fraction(*high) + TINY):
                if 0 <= beyond <= 1:
                    self.assertIsNone(wishes_with(made, known, naive.pair(beyond)))
        self.assertGreater(min(seen.values()), 100)


class TestWishBounds(unittest.TestCase):
    def test_ordinary_ones(self):
        self.assertEqual(wish_bounds(MEAN2, 0, (1, 4)), (ZERO, (1, 4)))
        self.assertEqual(wish_bounds(MEAN2, 1, (3, 4)), ((3, 4), ONE))
        self.assertEqual(wish_bounds(MEAN2, 0, HALF), WHOLE)
        self.assertEqual(wish_bounds(MEAN2, 0, ZERO), (ZERO, ZERO))
        self.assertEqual(wish_bounds(MEAN2, 0, ONE), (ONE, ONE))
        self.assertEqual(wish_bounds(Rule(1, ("bid", 0)), 0, (1, 3)), ((1, 3), (1, 3)))
        self.assertEqual(wish_bounds(BOUNDED, 1, HALF), WHOLE)
        self.assertEqual(wish_bounds(BOUNDED, 0, HALF), (HALF, HALF))

    def test_both_ends_of_the_range_and_beyond(self):
        self.assertEqual(wish_bounds(BOUNDED, 0, (1, 4)), (ZERO, (1, 4)))
        self.assertEqual(wish_bounds(BOUNDED, 0, (3, 4)), ((3, 4), ONE))
        for person in (0, 1):
            self.assertIsNone(wish_bounds(BOUNDED, person, (1, 5)))
            self.assertIsNone(wish_bounds(BOUNDED, person, (4, 5)))
            self.assertIsNone(wish_bounds(Rule(2, ("fixed", HALF)), person, (49, 99)))
            self.assertEqual(wish_bounds(Rule(2, ("fixed", HALF)), person, HALF), WHOLE)

    def test_by_chance(self):
        seen = {True: 0, False: 0}
        for rng, made in rules(164, 70):
            person = rng.randrange(made.people)
            low, high = range_of(made, (WHOLE,) * made.people)
            for told in (number(rng), low, high, outcome(made, numbers(rng, made.people))):
                found = wish_bounds(made, person, told)
                seen[found is None] += 1
                for wish in [Fraction(at, 12) for at in range(13)] + self.near(found):
                    if 0 <= wish <= 1:
                        known = [WHOLE] * made.people
                        known[person] = (naive.pair(wish), naive.pair(wish))
                        least, most = (naive.outcome(made, [pair[at] for pair in known]) for at in (0, 1))
                        there = found is not None and Fraction(*found[0]) <= wish <= Fraction(*found[1])
                        self.assertIs(least <= Fraction(*told) <= most, there)
        self.assertGreater(min(seen.values()), 20)

    def near(self, found):
        if found is None:
            return []
        low, high = naive.fractions_of(found)
        return [low, high, low - TINY, high + TINY]

    def test_all_wishes_of_a_grid(self):
        grid = [naive.pair(Fraction(at, 6)) for at in range(7)]
        for rng, made in rules(165, 40, 2):
            told = number(rng, 3)
            for person in (0, 1):
                found = [Fraction(*wishes[person]) for wishes in product(grid, repeat=2) if outcome(made, wishes) == told]
                bounds = wish_bounds(made, person, told)
                if found:
                    self.assertTrue(Fraction(*bounds[0]) <= min(found) <= max(found) <= Fraction(*bounds[1]))
                    self.assertEqual([naive.pair(min(found)), naive.pair(max(found))], list(bounds))

    def test_deep_rules(self):
        made = unchecked(2, deep_term(60))
        told = outcome(made, (HALF, (1, 3)))
        self.assertIsNotNone(wishes_with(made, (WHOLE, WHOLE), told))
        self.assertIsNotNone(wish_bounds(made, 1, told))


class TestErrors(unittest.TestCase):
    def test_errors_in_their_order(self):
        for wrong in spoiled_stretches(SOME) + [(), WHOLE, (HALF,) * 3, ((ONE, ZERO),) * 3]:
            self.assertRaises(NoStretches, range_of, MEAN3, wrong)
            self.assertRaises(NoStretches, wishes_with, MEAN3, wrong, None)
        for wrong in ODD + [3, 6, True]:
            self.assertRaises(NoPerson, wish_bounds, MEAN3, wrong, None)
        for wrong in spoiled(HALF) + [(2, 4), (3, 2), 0, 1]:
            self.assertRaises(NoNumber, wishes_with, MEAN3, SOME, wrong)
            self.assertRaises(NoNumber, wish_bounds, MEAN3, 2, wrong)


if __name__ == "__main__":
    unittest.main()
