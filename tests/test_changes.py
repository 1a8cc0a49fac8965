"""21.1 and 21.2: a rule changed, and several rules."""

import unittest
from fractions import Fraction
from itertools import product

from cornerbids.changes import (all_gain, beaten_by, best_number, duels, fairest_rule, gainers, is_all_gain, nearest_rule, outcomes,
                                unbeaten)
from cornerbids.comparing import cousin
from cornerbids.corners import corner
from cornerbids.errors import NoRules, NoWishes, OtherPeople
from cornerbids.outcomes import outcome
from cornerbids.rules import Rule
from cornerbids.tables import rule_of
from tests import naive
from tests.things import MEAN2, MEAN3, ODD, chance, deep_term, number, numbers, rule, rules, spoiled, table, unchecked

ZERO, HALF, ONE = (0, 1), (1, 2), (1, 1)
LEAST = Rule(2, ("least", (("bid", 0), ("bid", 1))))
GREATEST = Rule(2, ("greatest", (("bid", 0), ("bid", 1))))
FIRST = Rule(2, ("bid", 0))
SEVERAL = (nearest_rule, fairest_rule, beaten_by, unbeaten, duels, best_number, outcomes)


def fixed(told, people=2):
    return Rule(people, ("fixed", told))


def misses(made, wishes):
    told = naive.outcome(made, wishes)
    return [abs(told - wish) for wish in naive.fractions_of(wishes)]


def naive_gainers(one, other, wishes):
    pairs = list(zip(misses(one, wishes), misses(other, wishes)))
    return (tuple(at for at, (elder, new) in enumerate(pairs) if new < elder),
            tuple(at for at, (elder, new) in enumerate(pairs) if new == elder),
            tuple(at for at, (elder, new) in enumerate(pairs) if new > elder))


def naive_word(one, other, wishes):
    worse, _, better = naive_gainers(one, other, wishes)
    return "one" if len(better) > len(worse) else "other" if len(worse) > len(better) else "none"


def rows_by_chance(seed, many):
    rng = chance(seed)
    for _ in range(many):
        people = rng.randint(1, 6)
        row = [rng.choice((rule(rng, people), rule_of(people, table(rng, people, 3)), fixed(number(rng), people)))
               for _ in range(rng.randint(1, 10))]
        yield rng, row, numbers(rng, people)


class TestGainers(unittest.TestCase):
    def test_ordinary_ones(self):
        self.assertEqual(gainers(LEAST, GREATEST, (ZERO, ONE)), ((1,), (), (0,)))
        self.assertEqual(gainers(MEAN2, GREATEST, (ZERO, ONE)), ((1,), (), (0,)))
        self.assertEqual(gainers(MEAN2, LEAST, (HALF, HALF)), ((), (0, 1), ()))
        # Near is near on either side.
        self.assertEqual(gainers(fixed(ZERO), fixed(ONE), (HALF, (1, 3))), ((), (0,), (1,)))
        self.assertEqual(gainers(fixed((1, 4)), fixed((5, 8)), (HALF, (2, 5))), ((0,), (), (1,)))

    def test_by_chance(self):
        for rng, one in rules(381, 200):
            other = rule(rng, one.people)
            wishes = numbers(rng, one.people)
            found = gainers(one, other, wishes)
            self.assertEqual(found, naive_gainers(one, other, wishes))
            self.assertEqual(gainers(other, one, wishes), found[::-1])
            self.assertEqual(gainers(one, cousin(one), wishes), ((), tuple(range(one.people)), ()))


class TestAllGain(unittest.TestCase):
    def check(self, one, other):
        found = all_gain(one, other)
        all_of = tuple(range(one.people))
        more = Fraction(*corner(one, all_of)) < Fraction(*corner(other, all_of))
        less = Fraction(*corner(other, ())) < Fraction(*corner(one, ()))
        self.assertIs(found is not None, more or less)
        if found is not None:
            self.assertEqual(gainers(one, other, found), (all_of, (), ()))
            self.assertIs(is_all_gain(one, other, found), True)
        return found

    def test_ordinary_ones(self):
        self.assertIsNone(self.check(MEAN2, LEAST))
        self.assertIsNone(self.check(LEAST, GREATEST))
        self.assertIsNone(self.check(fixed(HALF), fixed(HALF)))
        self.assertIsNotNone(self.check(fixed(HALF), fixed((2, 3))))
        self.assertIsNotNone(self.check(fixed(HALF), fixed((1, 3))))
        self.assertIsNotNone(self.check(fixed(HALF), MEAN2))
        self.assertIsNone(self.check(MEAN2, fixed(HALF)))
        self.assertIsNotNone(self.check(Rule(2, ("between", ZERO, HALF, ("bid", 0))), FIRST))
        self.assertIsNotNone(self.check(Rule(2, ("between", HALF, ONE, ("bid", 0))), FIRST))
        self.assertIsNone(self.check(FIRST, Rule(2, ("between", HALF, ONE, ("bid", 0)))))

    def test_fifteenth_fact(self):
        grid = (ZERO, (1, 5), HALF, (3, 4), ONE)
        seen = {True: 0, False: 0}
        for rng, one in rules(382, 120, 2):
            other = rule(rng, 2)
            found = self.check(one, other)
            seen[found is None] += 1
            right = {wishes: naive_gainers(one, other, wishes)[0] == (0, 1) for wishes in product(grid, repeat=2)}
            for wishes in right:
                self.assertIs(is_all_gain(one, other, wishes), right[wishes])
            if found is None:
                self.assertFalse(any(right.values()))
        self.assertGreater(min(seen.values()), 20)

    def test_by_chance(self):
        for rng, one in rules(383, 120):
            for other in (rule(rng, one.people), rule_of(one.people, table(rng, one.people, 3))):
                self.check(one, other)
                wishes = numbers(rng, one.people)
                self.assertIs(is_all_gain(one, other, wishes), len(naive_gainers(one, other, wishes)[0]) == one.people)

    def test_judges_any_object(self):
        one, other = fixed(HALF), fixed(ONE)
        self.assertIs(is_all_gain(one, other, (ONE, (4, 5))), True)
        self.assertIs(is_all_gain(one, other, (ONE, HALF)), False)
        self.assertIs(is_all_gain(one, other, (ONE, (3, 4))), False)
        for wrong in spoiled((ONE, (4, 5))) + [(ONE,), (ONE,) * 3, (), [ONE, ONE]]:
            self.assertIs(is_all_gain(one, other, wrong), False)


class TestNearest(unittest.TestCase):
    def test_ordinary_ones(self):
        row = [LEAST, MEAN2, GREATEST, FIRST]
        wishes = ((1, 5), (9, 10))
        self.assertEqual(outcomes(row, wishes), [(1, 5), HALF, (9, 10), (1, 5)])
        # Between the two wishes all numbers are as far from both together: the first one.
        self.assertEqual(nearest_rule(row, wishes), 0)
        self.assertEqual(best_number(row, wishes), (1, 5))
        self.assertEqual(fairest_rule(row, wishes), 1)
        row = [fixed(ZERO), fixed(HALF), fixed(ONE), fixed(HALF)]
        self.assertEqual(nearest_rule(row, (HALF, ONE)), 1)
        self.assertEqual(fairest_rule(row, (HALF, ONE)), 1)
        self.assertEqual(nearest_rule(row, (ONE, ONE)), 2)
        self.assertEqual(fairest_rule(row, (ONE, ONE)), 2)
        row = [fixed(told, 3) for told in (ZERO, HALF, (1, 5))]
        self.assertEqual(nearest_rule(row, (ZERO, ZERO, ONE)), 0)
        self.assertEqual(fairest_rule(row, (ZERO, ZERO, ONE)), 1)
        self.assertEqual(best_number(row, (ZERO, ZERO, ONE)), ZERO)

    def test_the_first_one_of_those_that_are_as_near(self):
        row = [fixed(ONE), fixed((1, 4)), fixed((3, 4)), fixed((1, 4))]
        self.assertEqual(nearest_rule(row, (HALF, HALF)), 1)
        self.assertEqual(fairest_rule(row, (HALF, HALF)), 1)
        self.assertEqual(nearest_rule([MEAN2] * 10, (HALF, ONE)), 0)
        self.assertEqual(fairest_rule([MEAN2] * 10, (HALF, ONE)), 0)

    def test_by_chance(self):
        for _, row, wishes in rows_by_chance(384, 150):
            told = [naive.outcome(made, wishes) for made in row]
            sums = [sum(misses(made, wishes)) for made in row]
            most = [max(misses(made, wishes)) for made in row]
            for given in (row, tuple(row)):
                self.assertEqual(outcomes(given, wishes), [naive.pair(number) for number in told])
                self.assertEqual(nearest_rule(given, wishes), sums.index(min(sums)))
                self.assertEqual(fairest_rule(given, wishes), most.index(min(most)))
                self.assertEqual(best_number(given, wishes), naive.pair(told[sums.index(min(sums))]))


class TestDuels(unittest.TestCase):
    def test_ordinary_ones(self):
        row = [LEAST, MEAN2, GREATEST]
        wishes = (ZERO, (1, 3))
        self.assertEqual(outcomes(row, wishes), [ZERO, (1, 3), (1, 3)])
        self.assertEqual(duels(row, wishes), [(0, 1, "none"), (0, 2, "none"), (1, 2, "none")])
        row = [fixed(told, 3) for told in (ONE, ZERO, HALF, HALF)]
        wishes = (ZERO, (1, 5), (4, 5))
        self.assertEqual(duels(row, wishes), [(0, 1, "other"), (0, 2, "other"), (0, 3, "other"), (1, 2, "one"), (1, 3, "one"), (2, 3, "none")])
        self.assertEqual(beaten_by(row, wishes), ((1, 2, 3), (), (1,), (1,)))
        self.assertEqual(unbeaten(row, wishes), (1,))

    def test_one_rule_alone_and_ten_alike(self):
        self.assertEqual(duels([MEAN2], (ZERO, ONE)), [])
        self.assertEqual(beaten_by((MEAN2,), (ZERO, ONE)), ((),))
        self.assertEqual(unbeaten([MEAN2], (ZERO, ONE)), (0,))
        self.assertEqual(beaten_by([MEAN2] * 10, (ZERO, ONE)), ((),) * 10)
        self.assertEqual(unbeaten((MEAN2,) * 10, (ZERO, ONE)), tuple(range(10)))
        self.assertEqual(len(duels([MEAN2] * 10, (ZERO, ONE))), 45)

    def test_by_chance(self):
        for _, row, wishes in rows_by_chance(385, 120):
            many = range(len(row))
            words = {(one, other): naive_word(row[one], row[other], wishes) for one in many for other in many}
            for given in (row, tuple(row)):
                beaten = tuple(tuple(one for one in many if words[one, other] == "one") for other in many)
                self.assertEqual(beaten_by(given, wishes), beaten)
                self.assertEqual(unbeaten(given, wishes), tuple(at for at in many if not beaten[at]))
                found = duels(given, wishes)
                self.assertEqual(found, [(one, other, words[one, other]) for one in many for other in many if one < other])
                self.assertEqual(found, sorted(found))

    def test_eighteenth_fact(self):
        for rng, row, wishes in rows_by_chance(386, 150):
            self.assertNotEqual(unbeaten(row, wishes), ())
            row = [fixed(number(rng), len(wishes)) for _ in range(10)]
            self.assertNotEqual(unbeaten(row, wishes), ())

    def test_each_list_is_new(self):
        row = [LEAST, MEAN2]
        for function in (duels, outcomes):
            first = function(row, (ZERO, ONE))
            kept = list(first)
            first.clear()
            self.assertEqual(function(row, (ZERO, ONE)), kept)
        self.assertEqual(row, [LEAST, MEAN2])

    def test_deep_rules(self):
        deep = unchecked(2, deep_term(60))
        for function in SEVERAL:
            function([deep, MEAN2, deep], (HALF, ONE))
        self.assertEqual(outcomes([deep], (HALF, ONE)), [outcome(deep, (HALF, ONE))])
        gainers(deep, MEAN2, (HALF, ONE))
        self.assertIsNone(all_gain(deep, deep))


class TestErrors(unittest.TestCase):
    def test_other_people_comes_first(self):
        for one, other in ((MEAN2, MEAN3), (MEAN3, MEAN2), (Rule(1, ("bid", 0)), Rule(6, ("bid", 0)))):
            self.assertRaises(OtherPeople, all_gain, one, other)
            for thing in ODD + [(HALF,) * one.people]:
                self.assertRaises(OtherPeople, gainers, one, other, thing)
                self.assertRaises(OtherPeople, is_all_gain, one, other, thing)

    def test_no_rules_comes_first(self):
        wrong_rows = ODD + [[], (), [MEAN2] * 11, (MEAN2,) * 11, [MEAN2, MEAN3], (MEAN3, MEAN2), MEAN2, [MEAN2.term], "rules", [[MEAN2]],
                            {0: MEAN2}, [MEAN2, None], (MEAN2, (2, MEAN2.term)), [MEAN2, Rule], iter([MEAN2])]
        rights = ([MEAN2], [MEAN2] * 2, (MEAN2, MEAN3))
        for wrong in wrong_rows:
            if isinstance(wrong, (list, tuple)) and wrong and all(isinstance(one, Rule) for one in wrong) and len(wrong) <= 10 and (
                    len({one.people for one in wrong}) == 1):
                # A right list of rules among the odd things.
                self.assertIn(wrong, rights)
                continue
            for function in SEVERAL:
                self.assertRaises(NoRules, function, wrong, None)
                self.assertRaises(NoRules, function, wrong, (HALF, HALF))

    def test_then_no_wishes(self):
        for wrong in spoiled((HALF, ONE)) + [(HALF,), (HALF,) * 3, ()]:
            self.assertRaises(NoWishes, gainers, MEAN2, LEAST, wrong)
            for function in SEVERAL:
                self.assertRaises(NoWishes, function, [MEAN2, LEAST], wrong)
                self.assertRaises(NoWishes, function, (MEAN2,), wrong)


if __name__ == "__main__":
    unittest.main()
