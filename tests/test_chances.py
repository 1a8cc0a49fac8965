"""16.1: how likely outcomes are."""

import unittest
from fractions import Fraction
from itertools import product
from math import prod

from cornerbids.chances import chances, likely_at_least, likely_own, mean_outcome
from cornerbids.corners import corner
from cornerbids.errors import NoChoices, NoNumber, NoPerson, TooMany
from cornerbids.outcomes import outcome
from cornerbids.rules import Rule
from tests import naive
from tests.things import MEAN2, MEAN3, ODD, chance, deep_term, number, numbers, rules, spoiled, unchecked

ZERO, HALF, ONE = (0, 1), (1, 2), (1, 1)
ENDS = ((ZERO, ONE), (ZERO, ONE))
ROWS = (chances, mean_outcome)


def choices_of(rng, people, most=4):
    return tuple(numbers(rng, rng.randint(1, most), rng.choice((2, 6))) for _ in range(people))


def counted(made, choices):
    """Each row of wishes with its outcome."""
    return [(row, naive.outcome(made, row)) for row in product(*choices)]


def likely(rows, test):
    return naive.pair(Fraction(sum(test(row, told) for row, told in rows), len(rows)))


class TestChances(unittest.TestCase):
    def test_ordinary_ones(self):
        self.assertEqual(chances(MEAN2, ENDS), {ZERO: (1, 4), HALF: (1, 2), ONE: (1, 4)})
        self.assertEqual(mean_outcome(MEAN2, ENDS), HALF)
        self.assertEqual(likely_own(MEAN2, ENDS, 0), HALF)
        self.assertEqual(likely_at_least(MEAN2, ENDS, HALF), (3, 4))
        least = Rule(2, ("least", (("bid", 0), ("bid", 1))))
        self.assertEqual(chances(least, ((HALF, ONE), (ZERO, ONE, ONE))), {ZERO: (1, 3), HALF: (1, 3), ONE: (1, 3)})
        self.assertEqual(mean_outcome(least, ((HALF, ONE), (ZERO, ONE, ONE))), HALF)
        self.assertEqual(likely_own(least, ((HALF, ONE), (ZERO, ONE, ONE)), 1), (2, 3))

    def test_one_number_each(self):
        for rng, made in rules(321, 60):
            wishes = numbers(rng, made.people)
            choices = tuple((wish,) for wish in wishes)
            told = outcome(made, wishes)
            self.assertEqual(chances(made, choices), {told: ONE})
            self.assertEqual(mean_outcome(made, choices), told)
            for person in range(made.people):
                self.assertEqual(likely_own(made, choices, person), ONE if told == wishes[person] else ZERO)
            self.assertEqual(likely_at_least(made, choices, told), ONE)

    def test_each_place_counts(self):
        one = Rule(1, ("bid", 0))
        self.assertEqual(chances(one, ((HALF, HALF, ZERO),)), {HALF: (2, 3), ZERO: (1, 3)})
        self.assertEqual(mean_outcome(one, ((HALF, HALF, ZERO),)), (1, 3))
        self.assertEqual(likely_own(one, ((HALF, HALF, ZERO),), 0), ONE)
        self.assertEqual(likely_at_least(one, ((HALF, HALF, ZERO),), HALF), (2, 3))
        self.assertEqual(chances(one, ((ONE,) * 20,)), {ONE: ONE})
        self.assertEqual(chances(MEAN2, ((ZERO, ONE, ONE), (ZERO, ZERO))), {ZERO: (1, 3), HALF: (2, 3)})

    def test_by_chance(self):
        for rng, made in rules(322, 120):
            choices = choices_of(rng, made.people, 4 if made.people < 5 else 2)
            rows = counted(made, choices)
            told = {naive.pair(number): likely(rows, lambda row, one: one == number) for number in {told for _, told in rows}}
            self.assertEqual(chances(made, choices), told)
            mean = naive.pair(sum((told for _, told in rows), Fraction()) / len(rows))
            self.assertEqual(mean_outcome(made, choices), mean)
            for person in range(made.people):
                own = likely(rows, lambda row, one: one == Fraction(*row[person]))
                self.assertEqual(likely_own(made, choices, person), own)
            for wanted in (number(rng), rng.choice(list(told)), ZERO, ONE, choices[0][0], corner(made, (0,))):
                at_least = likely(rows, lambda row, one: one >= Fraction(*wanted))
                self.assertEqual(likely_at_least(made, choices, wanted), at_least)

    def test_likelihoods_come_to_one(self):
        for rng, made in rules(323, 40):
            choices = choices_of(rng, made.people, 5)
            told = chances(made, choices)
            self.assertEqual(sum(Fraction(*part) for part in told.values()), 1)
            self.assertTrue(all(part[0] > 0 for part in told.values()))
            mean = sum(Fraction(*number) * Fraction(*part) for number, part in told.items())
            self.assertEqual(mean_outcome(made, choices), naive.pair(mean))
            for wanted in told:
                more = sum(Fraction(*told[number]) for number in told if Fraction(*number) >= Fraction(*wanted))
                self.assertEqual(likely_at_least(made, choices, wanted), naive.pair(more))

    def test_twelfth_fact(self):
        for rng, made in rules(324, 150):
            wishes = numbers(rng, made.people)
            for wanted in (number(rng), outcome(made, wishes), wishes[0], corner(made, (0,)), ZERO, ONE):
                lot = tuple(person for person, wish in enumerate(wishes) if Fraction(*wish) >= Fraction(*wanted))
                held = Fraction(*corner(made, lot)) >= Fraction(*wanted)
                self.assertIs(Fraction(*outcome(made, wishes)) >= Fraction(*wanted), held)
                self.assertEqual(likely_at_least(made, tuple((wish,) for wish in wishes), wanted), ONE if held else ZERO)

    def test_rows_up_to_the_bound(self):
        rng = chance(325)
        for sizes in ((20, 20, 10, 5), (20, 20, 20, 2), (4, 5, 10, 10, 10), (1, 20, 20, 1, 10, 5)):
            self.assertIn(prod(sizes), (16000, 20000))
            choices = tuple(numbers(rng, size) for size in sizes)
            made = Rule(len(sizes), ("mean", tuple((1 + person, ("bid", person)) for person in range(len(sizes)))))
            self.assertEqual(sum(Fraction(*part) for part in chances(made, choices).values()), 1)
            self.assertIs(type(mean_outcome(made, choices)), tuple)
            self.assertIs(type(likely_own(made, choices, 1)), tuple)

    def test_any_choices_of_likely_at_least(self):
        choices = (tuple((at, 19) if at in (1, 2, 3, 5, 7) else ZERO if at < 10 else ONE for at in range(20)),) * 6
        median = Rule(6, ("ranked", 3, tuple(("bid", person) for person in range(6))))
        # Half of the places are 1: at least three of six wish 1 in 42 of 64 cases.
        self.assertEqual(likely_at_least(median, choices, ONE), (21, 32))
        self.assertEqual(likely_at_least(median, choices, ZERO), ONE)

    def test_deep_rules(self):
        made = unchecked(2, deep_term(60))
        self.assertEqual(chances(made, ((HALF,), (ONE,))), {outcome(made, (HALF, ONE)): ONE})


class TestErrors(unittest.TestCase):
    def test_no_choices(self):
        right = ((ZERO, HALF), (ONE,), (HALF, HALF, ONE))
        twenty = ((HALF,) * 20, (ONE,), (ZERO,))
        more = ((HALF,) * 21, (ONE,), (ZERO,))
        for function in ROWS:
            function(MEAN3, twenty)
            for wrong in spoiled(right) + [right[:2], right + right[:1], (), more, ((), (ONE,), (ZERO,)), (HALF, ONE, ZERO)]:
                self.assertRaises(NoChoices, function, MEAN3, wrong)
        for function in (likely_own, likely_at_least):
            for wrong in spoiled(right) + [right[:2], right + right[:1], (), more, ((), (ONE,), (ZERO,)), (HALF, ONE, ZERO)]:
                self.assertRaises(NoChoices, function, MEAN3, wrong, None)

    def test_no_person_and_no_number(self):
        for wrong in spoiled(1) + [3, -1, ZERO]:
            self.assertRaises(NoPerson, likely_own, MEAN3, ((ONE,),) * 3, wrong)
        for wrong in spoiled(HALF) + [(2, 4), (3, 2), 0, 1]:
            self.assertRaises(NoNumber, likely_at_least, MEAN3, ((ONE,),) * 3, wrong)

    def test_too_many_behind_the_others(self):
        most = ((HALF,) * 20,) * 3
        too_many = Rule(4, ("bid", 0)), most + ((ONE,) * 3,)
        just = Rule(4, ("bid", 0)), ((HALF,) * 20, (HALF,) * 20, (ONE,) * 10, (ONE,) * 5)
        over = Rule(4, ("bid", 0)), ((HALF,) * 19, (HALF,) * 17, (ONE,) * 9, (ONE,) * 7)
        self.assertGreater(prod(len(row) for row in over[1]), 20000)
        for function, more in ((chances, ()), (mean_outcome, ()), (likely_own, (3,))):
            function(*just, *more)
            for given in (too_many, over):
                with self.assertRaises(TooMany) as caught:
                    function(*given, *more)
                self.assertEqual(caught.exception.most, 20000)
        for thing in ODD:
            self.assertRaises(NoPerson, likely_own, *too_many, thing)
            self.assertRaises(NoNumber, likely_at_least, *too_many, thing)
        self.assertEqual(likely_at_least(*too_many, HALF), ONE)


if __name__ == "__main__":
    unittest.main()
