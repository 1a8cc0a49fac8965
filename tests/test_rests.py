"""5.1 and 5.2: rests."""

import unittest
from fractions import Fraction
from itertools import product

from cornerbids.errors import NoBids, NoWishes
from cornerbids.outcomes import outcome
from cornerbids.plain import is_plain
from cornerbids.rests import is_rest, is_single_rest, movers, moving_lots, rest
from cornerbids.rules import Rule, value
from tests import naive
from tests.things import MEAN2, MEAN3, deep_term, numbers, rules, spoiled, unchecked

WISHES = ((0, 1), (1, 2), (1, 1))
ZERO, ONE = (0, 1), (1, 1)
MEDIAN = Rule(3, ("ranked", 2, (("bid", 0), ("bid", 1), ("bid", 2))))
LEAST = Rule(2, ("least", (("bid", 0), ("bid", 1))))


def pushed(made, bids, lot, bid):
    return naive.value(made, [bid if person in lot else elder for person, elder in enumerate(bids)])


def naive_lots(made, wishes, bids):
    told = naive.value(made, bids)
    more = tuple(k for k, wish in enumerate(wishes) if Fraction(*wish) > told)
    less = tuple(k for k, wish in enumerate(wishes) if Fraction(*wish) < told)
    return (more if pushed(made, bids, more, ONE) > told else (), less if pushed(made, bids, less, ZERO) < told else ())


def naive_movers(made, wishes, bids):
    found = []
    told = naive.value(made, bids)
    for person, wish in enumerate(naive.fractions_of(wishes)):
        low, high = pushed(made, bids, (person,), ZERO), pushed(made, bids, (person,), ONE)
        # Whatever is between can be reached, so this is the nearest that can be.
        nearest = min(max(wish, low), high)
        if abs(nearest - wish) < abs(told - wish):
            found.append(person)
    return tuple(found)


class TestIsRest(unittest.TestCase):
    """5.1, of is_rest"""

    def test_ordinary_ones(self):
        self.assertIs(is_rest(MEAN3, WISHES, WISHES), True)
        self.assertIs(is_rest(MEAN3, WISHES, ((0, 1), (1, 3), (1, 1))), False)
        self.assertIs(is_rest(MEAN3, WISHES, (ZERO,) * 3), False)
        self.assertIs(is_rest(MEAN3, ((1, 2),) * 3, ((0, 1), (1, 2), (1, 1))), True)
        self.assertIs(is_rest(MEAN2, ((1, 2), (1, 2)), ((1, 4), (1, 4))), False)

    def test_single_rests_that_are_none(self):
        # Nobody alone moves the median of equal bids, all of one mind do.
        for bid in (ZERO, (1, 3), ONE):
            wishes = ((1, 2),) * 3
            self.assertIs(is_single_rest(MEDIAN, wishes, (bid,) * 3), True)
            self.assertIs(is_rest(MEDIAN, wishes, (bid,) * 3), False)
        self.assertIs(is_single_rest(LEAST, (ONE, ONE), (ZERO, ZERO)), True)
        self.assertIs(is_rest(LEAST, (ONE, ONE), (ZERO, ZERO)), False)

    def test_judge_any_object(self):
        for judge in (is_rest, is_single_rest):
            for thing in spoiled(WISHES) + [WISHES[:2], WISHES + (ONE,), ()]:
                self.assertIs(judge(MEAN3, WISHES, thing), False)
                self.assertIs(judge(Rule(3, ("fixed", (1, 2))), WISHES, thing), False)

    def test_bids_at_the_ends(self):
        fixed = Rule(2, ("fixed", (1, 2)))
        for bids in product((ZERO, ONE), repeat=2):
            self.assertIs(is_rest(fixed, (ZERO, ONE), bids), True)
            self.assertIs(is_rest(MEAN2, (ZERO, ONE), bids), bids == (ZERO, ONE))

    def test_by_chance_and_the_fourth_fact(self):
        seen = {True: 0, False: 0}
        for rng, made in rules(51, 60, depth=2):
            for _ in range(12):
                wishes, bids = numbers(rng, made.people, 3), numbers(rng, made.people, 2)
                told = is_rest(made, wishes, bids)
                self.assertIs(told, naive_lots(made, wishes, bids) == ((), ()))
                self.assertIs(is_single_rest(made, wishes, bids), naive_movers(made, wishes, bids) == ())
                seen[told] += 1
                if told:
                    self.assertEqual(value(made, bids), outcome(made, wishes))
        self.assertTrue(min(seen.values()) > 50, seen)

    def test_of_plain_rules_single_rests_are_rests(self):
        many = 0
        for rng, made in rules(52, 300, depth=2):
            if is_plain(made):
                for _ in range(10):
                    wishes, bids = numbers(rng, made.people, 3), numbers(rng, made.people, 2)
                    self.assertIs(is_single_rest(made, wishes, bids), is_rest(made, wishes, bids))
                    many += is_rest(made, wishes, bids)
        self.assertGreater(many, 10)


class TestRest(unittest.TestCase):
    """5.1, of rest"""

    def test_is_a_rest_with_the_outcome(self):
        for rng, made in rules(53, 120):
            wishes = numbers(rng, made.people)
            bids = rest(made, wishes)
            self.assertEqual(len(bids), made.people)
            self.assertIs(is_rest(made, wishes, bids), True)
            self.assertEqual(naive_lots(made, wishes, bids), ((), ()))
            self.assertEqual(value(made, bids), outcome(made, wishes))

    def test_equal_wishes_and_wishes_at_the_outcome(self):
        for rng, made in rules(54, 40):
            for wish in (ZERO, (1, 2), ONE, outcome(made, numbers(rng, made.people))):
                wishes = (wish,) * made.people
                self.assertIs(is_rest(made, wishes, rest(made, wishes)), True)

    def test_rules_beyond_the_bounds(self):
        made = unchecked(2, deep_term(60))
        for wishes in (((1, 3), (2, 3)), (ONE, ZERO)):
            self.assertIs(is_rest(made, wishes, rest(made, wishes)), True)


class TestMovers(unittest.TestCase):
    """5.2"""

    def test_ordinary_ones(self):
        self.assertEqual(movers(MEAN3, WISHES, WISHES), ())
        self.assertEqual(movers(MEAN3, WISHES, (ZERO,) * 3), (1, 2))
        self.assertEqual(movers(MEAN3, WISHES, (ONE,) * 3), (0, 1))
        self.assertEqual(movers(MEDIAN, WISHES, (ZERO, ZERO, ONE)), (1,))
        self.assertEqual(movers(MEDIAN, (ONE,) * 3, (ZERO, ZERO, ZERO)), ())

    def test_moving_lots(self):
        self.assertEqual(moving_lots(MEAN3, WISHES, WISHES), ((), ()))
        self.assertEqual(moving_lots(MEAN3, WISHES, (ZERO,) * 3), ((1, 2), ()))
        self.assertEqual(moving_lots(MEAN3, WISHES, (ONE,) * 3), ((), (0, 1)))
        self.assertEqual(moving_lots(MEDIAN, (ONE,) * 3, (ZERO,) * 3), ((0, 1, 2), ()))
        self.assertEqual(moving_lots(MEAN3, (ZERO, ONE, ONE), ((1, 2),) * 3), ((1, 2), (0,)))
        # All who want more count, also who bids 1 already.
        self.assertEqual(moving_lots(MEAN3, (ZERO, ONE, ONE), (ZERO, ONE, ZERO)), ((1, 2), ()))

    def test_by_chance(self):
        for rng, made in rules(55, 150):
            wishes, bids = numbers(rng, made.people), numbers(rng, made.people)
            self.assertEqual(movers(made, wishes, bids), naive_movers(made, wishes, bids))
            self.assertEqual(moving_lots(made, wishes, bids), naive_lots(made, wishes, bids))


class TestErrors(unittest.TestCase):
    def test_errors_in_their_order(self):
        for wrong in spoiled(WISHES) + [WISHES[:2], WISHES + (ONE,), ()]:
            self.assertRaises(NoWishes, rest, MEAN3, wrong)
            for function in (is_rest, is_single_rest, movers, moving_lots):
                self.assertRaises(NoWishes, function, MEAN3, wrong, None)
            for function in (movers, moving_lots):
                self.assertRaises(NoBids, function, MEAN3, WISHES, wrong)


if __name__ == "__main__":
    unittest.main()
