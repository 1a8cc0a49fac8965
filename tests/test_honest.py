"""8.1: honest or a lie."""

import unittest
from fractions import Fraction
from itertools import product

from cornerbids.comparing import cousin
from cornerbids.errors import NoBids, NoNumber, NoPerson
from cornerbids.honest import best_for, honest_at, is_lie, lie
from cornerbids.rules import Rule, value
from tests import naive
from tests.things import MEAN2, MEAN3, ODD, deep_term, number, numbers, rules, spoiled, unchecked

ZERO, HALF, ONE = (0, 1), (1, 2), (1, 1)
LEAST = Rule(2, ("least", (("bid", 0), ("bid", 1))))
GRID = [Fraction(at, 24) for at in range(25)]
TINY = Fraction(1, 10 ** 9)


def told(made, bids, person, bid):
    return naive.value(made, [naive.pair(bid) if at == person else elder for at, elder in enumerate(bids)])


def miss(made, bids, person, bid, wish):
    return abs(told(made, bids, person, bid) - wish)


def nearest(made, bids, person, wish):
    """How near any bid comes: the number goes through all from the bid 0 to the bid 1."""
    low, high = told(made, bids, person, Fraction(0)), told(made, bids, person, Fraction(1))
    return abs(min(max(wish, low), high) - wish)


class TestBestFor(unittest.TestCase):
    def test_ordinary_ones(self):
        self.assertEqual(best_for(MEAN2, (ZERO, ZERO), 0, (1, 4)), (HALF, HALF))
        self.assertEqual(best_for(MEAN2, (ZERO, ZERO), 0, (3, 4)), (ONE, ONE))
        self.assertEqual(best_for(MEAN2, (ZERO, ONE), 0, (1, 4)), (ZERO, ZERO))
        self.assertEqual(best_for(LEAST, (ZERO, HALF), 0, (3, 4)), (HALF, ONE))
        self.assertEqual(best_for(LEAST, (ZERO, HALF), 0, (1, 4)), ((1, 4), (1, 4)))
        self.assertEqual(best_for(Rule(2, ("bid", 0)), (ZERO, ZERO), 1, (3, 4)), (ZERO, ONE))
        self.assertEqual(best_for(Rule(1, ("bid", 0)), (ZERO,), 0, ONE), (ONE, ONE))

    def test_the_own_bid_means_nothing(self):
        for rng, made in rules(111, 60):
            bids, person, wish = numbers(rng, made.people), rng.randrange(made.people), number(rng)
            others = {bid: bids[:person] + (bid,) + bids[person + 1:] for bid in (ZERO, (2, 7), ONE)}
            self.assertEqual(len({best_for(made, given, person, wish) for given in others.values()}), 1)
            self.assertEqual(len({honest_at(made, given, person) for given in others.values()}), 1)
            self.assertEqual(len({lie(made, given, person) is None for given in others.values()}), 1)
            self.assertEqual(len({is_lie(made, given, person, (wish, (1, 5))) for given in others.values()}), 1)

    def test_by_chance(self):
        for rng, made in rules(112, 150):
            bids, person = numbers(rng, made.people), rng.randrange(made.people)
            wish = rng.choice([number(rng), ZERO, ONE])
            low, high = naive.fractions_of(best_for(made, bids, person, wish))
            least = nearest(made, bids, person, Fraction(*wish))
            for bid in GRID + [low, high, low - TINY, high + TINY]:
                if 0 <= bid <= 1:
                    self.assertEqual(miss(made, bids, person, bid, Fraction(*wish)) == least, low <= bid <= high)

    def test_errors_in_their_order(self):
        bids = (ZERO, HALF, ONE)
        for wrong in spoiled(bids) + [bids[:2], bids * 2, ()]:
            self.assertRaises(NoBids, best_for, MEAN3, wrong, None, None)
        for wrong in ODD + [3, 6, True]:
            self.assertRaises(NoPerson, best_for, MEAN3, bids, wrong, None)
        for wrong in spoiled(HALF) + [(2, 4), (3, 2)]:
            self.assertRaises(NoNumber, best_for, MEAN3, bids, 2, wrong)


class TestHonestAt(unittest.TestCase):
    def test_ordinary_ones(self):
        self.assertIs(honest_at(MEAN2, (ZERO, ZERO), 0), False)
        self.assertIs(honest_at(LEAST, (ZERO, HALF), 0), True)
        self.assertIs(honest_at(Rule(1, ("bid", 0)), (ZERO,), 0), True)
        # Nobody's bid means anything here.
        self.assertIs(honest_at(Rule(6, ("fixed", HALF)), (ZERO,) * 6, 5), True)
        # The mean stands in a bound that the others' bids do not let it reach.
        bounded = Rule(2, ("least", (MEAN2.term, ("bid", 1))))
        self.assertIs(honest_at(bounded, (ONE, ZERO), 0), True)
        self.assertIs(honest_at(bounded, (ONE, ONE), 0), False)

    def test_a_mean_that_is_honest(self):
        for term in (("mean", ((3, ("bid", 0)),)), ("mean", ((1, ("bid", 0)), (2, ("bid", 0))))):
            self.assertIs(honest_at(Rule(1, term), (ONE,), 0), True)
            self.assertIsNone(lie(Rule(1, term), (ONE,), 0))

    def test_by_chance(self):
        seen = {True: 0, False: 0}
        for rng, made in rules(113, 200):
            bids, person = numbers(rng, made.people), rng.randrange(made.people)
            honest = honest_at(made, bids, person)
            right = all(miss(made, bids, person, wish, wish) == nearest(made, bids, person, wish) for wish in GRID)
            # The grid may miss a lie, never find one where there is none.
            if right and not honest:
                wish, bid = naive.fractions_of(lie(made, bids, person))
                right = miss(made, bids, person, bid, wish) >= miss(made, bids, person, wish, wish)
            self.assertIs(honest, right)
            seen[honest] += 1
        self.assertGreater(min(seen.values()), 20)


class TestLie(unittest.TestCase):
    def test_eighth_fact_by_chance(self):
        seen = {True: 0, False: 0}
        for rng, made in rules(114, 200):
            bids, person = numbers(rng, made.people), rng.randrange(made.people)
            found = lie(made, bids, person)
            self.assertIs(found is None, honest_at(made, bids, person))
            seen[found is None] += 1
            if found is not None:
                self.assertIs(type(found), tuple)
                self.assertIs(is_lie(made, bids, person, found), True)
                wish, bid = naive.fractions_of(found)
                self.assertLess(miss(made, bids, person, bid, wish), miss(made, bids, person, wish, wish))
        self.assertGreater(min(seen.values()), 20)

    def test_a_lie_that_few_wishes_show(self):
        # Up to 99/100 the number is the bid; behind it the number rises half as fast.
        near = (99, 100)
        slow = ("mean", ((1, ("between", near, ONE, ("bid", 0))), (1, ("fixed", near))))
        made = Rule(1, ("greatest", (("least", (("bid", 0), ("fixed", near))), slow)))
        self.assertIs(honest_at(made, (ZERO,), 0), False)
        wish, bid = lie(made, (ZERO,), 0)
        self.assertIs(is_lie(made, (ZERO,), 0, (wish, bid)), True)
        self.assertTrue(Fraction(*near) < Fraction(*wish) < 1)

    def test_a_rule_without_a_mean_is_honest_everywhere(self):
        many = 0
        for rng, made in rules(115, 300):
            if "mean" not in naive.words_in(made.term):
                many += 1
                for person in range(made.people):
                    bids = numbers(rng, made.people)
                    self.assertIs(honest_at(made, bids, person), True)
                    self.assertIsNone(lie(made, bids, person))
        self.assertGreater(many, 50)

    def test_honest_everywhere_exactly_if_it_tells_what_its_cousin_tells(self):
        unlike = 0
        for rng, made in rules(116, 120):
            bids, twin = numbers(rng, made.people), cousin(made)
            self.assertTrue(all(honest_at(twin, bids, person) for person in range(made.people)))
            if value(made, bids) != value(twin, bids):
                # If all of these were honest the number would be held by the corners alone.
                found = [person for person in range(made.people) for ahead in product((ZERO, ONE), repeat=person)
                         if not honest_at(made, ahead + bids[person:], person)]
                self.assertTrue(found)
                unlike += 1
            for person in range(made.people):
                found = lie(made, bids, person)
                if found is not None:
                    rows = [bids[:person] + (bid,) + bids[person + 1:] for bid in (ZERO, ONE, found[0])]
                    self.assertTrue(any(value(made, row) != value(twin, row) for row in rows))
        self.assertGreater(unlike, 20)

    def test_deep_rules(self):
        made = unchecked(2, deep_term(60))
        for person in (0, 1):
            self.assertIs(honest_at(made, (HALF, HALF), person), lie(made, (HALF, HALF), person) is None)

    def test_errors_in_their_order(self):
        bids = (ZERO, HALF, ONE)
        for wrong in spoiled(bids) + [bids[:2], bids * 2, ()]:
            self.assertRaises(NoBids, honest_at, MEAN3, wrong, None)
            self.assertRaises(NoBids, lie, MEAN3, wrong, None)
            self.assertRaises(NoBids, is_lie, MEAN3, wrong, None, None)
        for wrong in ODD + [3, 6, True]:
            self.assertRaises(NoPerson, honest_at, MEAN3, bids, wrong)
            self.assertRaises(NoPerson, lie, MEAN3, bids, wrong)
            self.assertRaises(NoPerson, is_lie, MEAN3, bids, wrong, None)


class TestIsLie(unittest.TestCase):
    def test_ordinary_ones(self):
        bids = (ZERO, ZERO)
        self.assertIs(is_lie(MEAN2, bids, 0, ((1, 4), HALF)), True)
        self.assertIs(is_lie(MEAN2, bids, 0, ((1, 4), (1, 3))), True)
        # Just as near on the other side is not nearer.
        self.assertIs(is_lie(MEAN2, bids, 0, ((1, 4), (3, 4))), False)
        self.assertIs(is_lie(MEAN2, bids, 0, ((1, 4), (74, 99))), True)
        self.assertIs(is_lie(MEAN2, bids, 0, ((1, 4), (1, 4))), False)
        self.assertIs(is_lie(MEAN2, bids, 0, ((1, 4), (1, 5))), False)
        self.assertIs(is_lie(MEAN2, bids, 0, (ZERO, ONE)), False)
        self.assertIs(is_lie(MEAN2, bids, 0, (ONE, ZERO)), False)
        self.assertIs(is_lie(LEAST, bids, 0, (HALF, ONE)), False)

    def test_by_chance(self):
        seen = {True: 0, False: 0}
        for rng, made in rules(117, 200):
            bids, person = numbers(rng, made.people), rng.randrange(made.people)
            for _ in range(10):
                thing = numbers(rng, 2)
                wish, bid = naive.fractions_of(thing)
                right = miss(made, bids, person, bid, wish) < miss(made, bids, person, wish, wish)
                self.assertIs(is_lie(made, bids, person, thing), right)
                seen[right] += 1
        self.assertGreater(min(seen.values()), 50)

    def test_judges_any_object(self):
        right = ((1, 4), HALF)
        for thing in spoiled(right) + [[(1, 4), HALF], right[:1], right * 2, ()]:
            self.assertIs(is_lie(MEAN2, (ZERO, ZERO), 0, thing), False)


if __name__ == "__main__":
    unittest.main()
