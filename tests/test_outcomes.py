"""2.2, 2.3 and the outcome behind bids of 3.2."""

import unittest
from fractions import Fraction
from itertools import combinations

from cornerbids.errors import NoBids, NoLot, NoWishes
from cornerbids.outcomes import holding, is_outcome, outcome, outcome_behind, pressing, sides
from cornerbids.rules import Rule, mirrored, value
from tests import naive
from tests.things import MEAN2, MEAN3, ODD, chance, deep_term, number, numbers, rule, rules, spoiled, unchecked

WISHES = ((0, 1), (1, 2), (1, 1))
MEDIAN = Rule(3, ("ranked", 2, (("bid", 0), ("bid", 1), ("bid", 2))))


def wrong_wishes():
    return spoiled(WISHES) + [WISHES[:2], WISHES + ((0, 1),), ()]


class TestOutcome(unittest.TestCase):
    """2.2"""

    def test_ordinary_ones(self):
        self.assertEqual(outcome(MEAN3, ((1, 3), (1, 3), (1, 3))), (1, 3))
        self.assertEqual(outcome(MEAN3, ((0, 1), (0, 1), (1, 1))), (1, 3))
        self.assertEqual(outcome(MEDIAN, ((1, 5), (4, 5), (2, 5))), (2, 5))
        self.assertEqual(outcome(Rule(2, ("bid", 1)), ((1, 5), (4, 5))), (4, 5))
        self.assertEqual(outcome(Rule(2, ("fixed", (3, 7))), ((1, 5), (4, 5))), (3, 7))
        self.assertEqual(outcome(Rule(2, ("least", (("bid", 0), ("bid", 1)))), ((1, 5), (4, 5))), (1, 5))

    def test_one_person(self):
        rule = Rule(1, ("mean", ((1, ("bid", 0)), (1, ("fixed", (1, 2))))))
        for wish, told in (((0, 1), (1, 4)), ((1, 4), (1, 4)), ((2, 5), (2, 5)), ((3, 4), (3, 4)), ((1, 1), (3, 4))):
            self.assertEqual(outcome(rule, (wish,)), told)

    def test_six_people(self):
        rule = Rule(6, ("mean", tuple((1, ("bid", k)) for k in range(6))))
        self.assertEqual(outcome(rule, tuple((k, 5) for k in range(1, 5)) + ((0, 1), (1, 1))), (1, 2))

    def test_wishes_at_corners(self):
        for wish in ((1, 3), (2, 3), (0, 1), (1, 1)):
            for other in ((1, 3), (2, 3)):
                wishes = (wish, other, (1, 2))
                self.assertEqual(outcome(MEAN3, wishes), naive.pair(naive.outcome(MEAN3, wishes)))

    def test_equal_wishes(self):
        for wish in ((0, 1), (1, 7), (1, 1)):
            self.assertEqual(outcome(MEAN3, (wish,) * 3), wish)

    def test_first_fact_by_chance(self):
        for rng, made in rules(21, 200):
            wishes = numbers(rng, made.people)
            told = outcome(made, wishes)
            self.assertEqual(told, naive.pair(naive.outcome(made, wishes)))
            self.assertTrue(naive.is_behind(made, wishes, wishes, tuple(range(made.people)), Fraction(*told)))

    def test_it_is_held_from_both_sides_alone(self):
        for rng, made in rules(22, 40):
            wishes = numbers(rng, made.people)
            told = [Fraction(at, 60) for at in range(61)
                    if naive.is_behind(made, wishes, wishes, tuple(range(made.people)), Fraction(at, 60))]
            self.assertIn(told, [[], [Fraction(*outcome(made, wishes))]])

    def test_mirrored(self):
        for rng, made in rules(23, 40):
            wishes = numbers(rng, made.people)
            turned = tuple((bottom - top, bottom) for top, bottom in wishes)
            top, bottom = outcome(made, wishes)
            self.assertEqual(outcome(mirrored(made), turned), (bottom - top, bottom))

    def test_rules_beyond_the_bounds(self):
        made = unchecked(2, deep_term(60))
        wishes = ((1, 3), (2, 3))
        self.assertEqual(outcome(made, wishes), naive.pair(naive.outcome(made, wishes)))

    def test_no_wishes(self):
        for wishes in wrong_wishes():
            for function in (outcome, sides, holding, pressing):
                self.assertRaises(NoWishes, function, MEAN3, wishes)
            self.assertRaises(NoWishes, is_outcome, MEAN3, wishes, (1, 2))
            self.assertRaises(NoWishes, is_outcome, MEAN3, wishes, None)


class TestIsOutcome(unittest.TestCase):
    """2.2"""

    def test_judges_numbers(self):
        self.assertIs(is_outcome(MEAN3, WISHES, (1, 2)), True)
        for thing in ((0, 1), (1, 1), (1, 3), (499, 1000), (501, 1000), (2, 3)):
            self.assertIs(is_outcome(MEAN3, WISHES, thing), False)

    def test_judges_any_object(self):
        for thing in spoiled((1, 2)) + [(2, 4), (-1, -2), "1/2"]:
            self.assertIs(is_outcome(MEAN3, WISHES, thing), False)
        for wish in ((0, 1), (1, 1)):
            for thing in ODD + [(True, 1), (False, 1), (1, True), (0, True), True, False, 0, 1]:
                self.assertIs(is_outcome(MEAN3, (wish,) * 3, thing), False)
            self.assertIs(is_outcome(MEAN3, (wish,) * 3, wish), True)

    def test_by_chance(self):
        for rng, made in rules(24, 60):
            wishes = numbers(rng, made.people)
            thing = number(rng)
            right = naive.is_behind(made, wishes, wishes, tuple(range(made.people)), Fraction(*thing))
            self.assertIs(is_outcome(made, wishes, thing), right)


class TestSides(unittest.TestCase):
    """2.3"""

    def test_ordinary_ones(self):
        self.assertEqual(sides(MEAN3, WISHES), ((0,), (1,), (2,)))
        self.assertEqual(sides(MEAN3, ((1, 2), (1, 2), (1, 2))), ((), (0, 1, 2), ()))
        self.assertEqual(sides(MEAN3, ((1, 1), (0, 1), (1, 1))), ((1,), (), (0, 2)))
        self.assertEqual(sides(Rule(2, ("fixed", (1, 1))), ((1, 2), (0, 1))), ((0, 1), (), ()))

    def test_by_chance(self):
        for rng, made in rules(25, 60):
            wishes = numbers(rng, made.people, 4)
            told = naive.outcome(made, wishes)
            wanted = naive.fractions_of(wishes)
            everybody = range(made.people)
            self.assertEqual(sides(made, wishes), (
                tuple(k for k in everybody if wanted[k] < told), tuple(k for k in everybody if wanted[k] == told),
                tuple(k for k in everybody if wanted[k] > told)))


class TestHoldingAndPressing(unittest.TestCase):
    """2.3"""

    def test_ordinary_ones(self):
        self.assertEqual(holding(MEAN3, WISHES), (1, 2))
        self.assertEqual(pressing(MEAN3, WISHES), (0, 1))
        self.assertEqual(holding(MEAN3, ((1, 3), (1, 3), (1, 3))), (0,))
        self.assertEqual(pressing(MEAN3, ((1, 3), (1, 3), (1, 3))), (0, 1))
        self.assertEqual(holding(MEDIAN, ((1, 2), (1, 1), (1, 2))), (0, 1))

    def test_the_empty_lot_and_the_lot_of_all(self):
        fixed = Rule(2, ("fixed", (1, 2)))
        self.assertEqual((holding(fixed, ((0, 1), (1, 1))), pressing(fixed, ((0, 1), (1, 1)))), ((), ()))
        self.assertEqual(holding(MEAN2, ((0, 1), (0, 1))), ())
        self.assertEqual(pressing(MEAN2, ((0, 1), (0, 1))), (0, 1))
        self.assertEqual(holding(MEAN2, ((1, 1), (1, 1))), (0, 1))
        self.assertEqual(pressing(MEAN2, ((1, 1), (1, 1))), ())

    def test_by_chance(self):
        for rng, made in rules(26, 80):
            wishes = numbers(rng, made.people, 4)
            told = naive.outcome(made, wishes)
            wanted = naive.fractions_of(wishes)
            everybody = set(range(made.people))
            holders = [lot for lot in naive.all_lots(made.people)
                       if all(wanted[k] >= told for k in lot) and naive.corner(made, lot) >= told]
            pressers = [lot for lot in naive.all_lots(made.people)
                        if all(wanted[k] <= told for k in lot) and naive.corner(made, everybody - set(lot)) <= told]
            by_size = (lambda lot: (len(lot), lot))
            self.assertEqual(holding(made, wishes), min(holders, key=by_size))
            self.assertEqual(pressing(made, wishes), min(pressers, key=by_size))


class TestOutcomeBehind(unittest.TestCase):
    """3.2, of outcome_behind"""

    def test_with_all_later_it_is_the_outcome_with_none_what_the_rule_tells(self):
        for rng, made in rules(27, 60):
            wishes, bids = numbers(rng, made.people), numbers(rng, made.people)
            everybody = tuple(range(made.people))
            self.assertEqual(outcome_behind(made, wishes, bids, everybody), outcome(made, wishes))
            self.assertEqual(outcome_behind(made, wishes, bids, ()), value(made, bids))

    def test_ordinary_ones(self):
        zeros = ((0, 1),) * 3
        self.assertEqual(outcome_behind(MEAN3, WISHES, zeros, (2,)), (1, 3))
        self.assertEqual(outcome_behind(MEAN3, WISHES, ((1, 1), (1, 1), (0, 1)), (0, 2)), (2, 3))
        self.assertEqual(outcome_behind(MEAN3, WISHES, ((1, 1), (1, 2), (0, 1)), (1, 2)), (2, 3))

    def test_by_chance(self):
        for rng, made in rules(28, 150):
            wishes, bids = numbers(rng, made.people), numbers(rng, made.people)
            lots = list(combinations(range(made.people), rng.randint(0, made.people)))
            later = rng.choice(lots)
            told = outcome_behind(made, wishes, bids, later)
            self.assertEqual(told, naive.pair(naive.behind(made, wishes, bids, later)))
            self.assertTrue(naive.is_behind(made, wishes, bids, later, Fraction(*told)))

    def test_errors_in_their_order(self):
        odd = (2, 1)
        self.assertRaises(NoWishes, outcome_behind, MEAN3, odd, odd, odd)
        self.assertRaises(NoBids, outcome_behind, MEAN3, WISHES, odd, odd)
        self.assertRaises(NoLot, outcome_behind, MEAN3, WISHES, WISHES, odd)
        for wrong in wrong_wishes():
            self.assertRaises(NoWishes, outcome_behind, MEAN3, wrong, None, None)
            self.assertRaises(NoBids, outcome_behind, MEAN3, WISHES, wrong, None)
        for wrong in spoiled((0, 2)) + [(1, 0), (0, 0), (3,), [0], [], (True,), 0]:
            self.assertRaises(NoLot, outcome_behind, MEAN3, WISHES, WISHES, wrong)


class TestOneRuleManyWishes(unittest.TestCase):
    def test_nothing_is_kept_between_calls(self):
        rng = chance(29)
        made = rule(rng, 4)
        rows = [numbers(rng, 4) for _ in range(20)]
        first = [outcome(made, wishes) for wishes in rows]
        again = [outcome(made, wishes) for wishes in reversed(rows)]
        self.assertEqual(first, again[::-1])


if __name__ == "__main__":
    unittest.main()
