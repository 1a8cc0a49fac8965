"""10.1 and 10.2: corner tables."""

import unittest
from fractions import Fraction
from itertools import combinations

from cornerbids.comparing import cousin
from cornerbids.corners import corners
from cornerbids.errors import NoPeople, NoTable
from cornerbids.outcomes import outcome
from cornerbids.rules import Rule, value
from cornerbids.tables import (bar_to_counts, bar_to_weights, by_counts, idle, is_bar_to_counts, is_bar_to_weights, is_table,
                               rule_of, weights_of)
from tests import naive
from tests.test_plain import plain_rules
from tests.things import (MEAN2, MEAN3, ODD, chance, lowered_tables, number, numbers, rules, shuffled, spoiled, spoiled_table,
                          table)

ZERO, HALF, ONE = (0, 1), (1, 2), (1, 1)
TWO = {(): ZERO, (0,): (1, 3), (1,): HALF, (0, 1): ONE}
MAJORITY = {lot: ONE if len(lot) > 1 else ZERO for lot in naive.all_lots(3)}
WRONG_PEOPLE = ODD + [0, 7, 8, -1, True, False, "2", (2,), [2], 10 ** 199]
JUST_TABLE = (rule_of, weights_of, bar_to_weights, by_counts, bar_to_counts, idle)
WITH_THING = (is_bar_to_weights, is_bar_to_counts)


def tables(seed, many):
    rng = chance(seed)
    for at in range(many):
        people = at % 6 + 1
        yield rng, people, table(rng, people, 3)


def rise(given, lot, person):
    return Fraction(*given[tuple(sorted((*lot, person)))]) - Fraction(*given[lot])


def is_bar(people, given, thing):
    person, one, other = thing
    return person not in one + other and rise(given, one, person) != rise(given, other, person)


def without(people, person):
    return [lot for lot in naive.all_lots(people) if person not in lot]


class TestIsTable(unittest.TestCase):
    """10.1, of is_table"""

    def test_ordinary_ones(self):
        self.assertIs(is_table(2, TWO), True)
        self.assertIs(is_table(3, MAJORITY), True)
        self.assertIs(is_table(1, {(): HALF, (0,): HALF}), True)
        self.assertIs(is_table(1, {(): HALF, (0,): (1, 3)}), False)
        self.assertIs(is_table(1, {(): ONE, (0,): ZERO}), False)
        self.assertIs(is_table(3, TWO), False)
        self.assertIs(is_table(1, TWO), False)
        for people in range(1, 7):
            self.assertIs(is_table(people, {lot: HALF for lot in naive.all_lots(people)}), True)
            self.assertIs(is_table(people, {lot: naive.pair(Fraction(len(lot), 6)) for lot in naive.all_lots(people)}), True)
            self.assertIs(is_table(people, {lot: (len(lot), 10 ** 9) for lot in naive.all_lots(people)}), False)

    def test_corners_are_tables(self):
        for _, made in rules(131, 60):
            self.assertIs(is_table(made.people, corners(made)), True)
            self.assertIs(is_table(made.people % 6 + 1, corners(made)), False)

    def test_one_number_too_low(self):
        many = 0
        for _, people, given in tables(132, 30):
            self.assertIs(is_table(people, given), True)
            for lowered in lowered_tables(given):
                self.assertIs(is_table(people, lowered), False)
                many += 1
        self.assertGreater(many, 100)

    def test_the_order_of_the_keys_means_nothing(self):
        for rng, people, given in tables(133, 24):
            other = shuffled(rng, given)
            self.assertIs(is_table(people, other), True)
            for function in (weights_of, by_counts, idle, bar_to_weights, bar_to_counts, rule_of):
                self.assertEqual(function(people, other), function(people, given))

    def test_judges_any_object(self):
        for thing in spoiled_table(TWO):
            self.assertIs(is_table(2, thing), False)
        for lot in TWO:
            for wrong in spoiled(TWO[lot]) + [(2, 4), (3, 2), (-1, 2)]:
                self.assertIs(is_table(2, {**TWO, lot: wrong}), False)

    def test_no_people_comes_ahead_of_everything(self):
        for wrong in WRONG_PEOPLE:
            for given in (TWO, None, {}, MAJORITY):
                self.assertRaises(NoPeople, is_table, wrong, given)
                for function in JUST_TABLE:
                    self.assertRaises(NoPeople, function, wrong, given)
                for function in WITH_THING:
                    self.assertRaises(NoPeople, function, wrong, given, None)

    def test_no_table(self):
        for wrong in spoiled_table(TWO) + [MAJORITY, {**TWO, (0, 1): (1, 4)}]:
            for function in JUST_TABLE:
                self.assertRaises(NoTable, function, 2, wrong)
            for function in WITH_THING:
                self.assertRaises(NoTable, function, 2, wrong, None)


class TestRuleOf(unittest.TestCase):
    """10.1, of rule_of"""

    def test_has_these_corners_and_no_mean(self):
        for rng, people, given in tables(134, 60):
            made = rule_of(people, given)
            self.assertIs(type(made), Rule)
            self.assertEqual(made.people, people)
            self.assertEqual(corners(made), given)
            self.assertNotIn("mean", naive.words_in(made.term))
            bids = numbers(rng, people)
            told = max(min([Fraction(*given[lot])] + [Fraction(*bids[person]) for person in lot]) for lot in given)
            self.assertEqual(value(made, bids), naive.pair(told))
            self.assertEqual(outcome(made, bids), naive.pair(told))

    def test_one_person_and_six(self):
        self.assertEqual(corners(rule_of(1, {(): ZERO, (0,): ZERO})), {(): ZERO, (0,): ZERO})
        self.assertEqual(corners(rule_of(1, {(): (1, 3), (0,): ONE})), {(): (1, 3), (0,): ONE})
        unlike = {lot: naive.pair(Fraction(sum(2 ** person for person in lot), 63)) for lot in naive.all_lots(6)}
        self.assertEqual(corners(rule_of(6, unlike)), unlike)

    def test_the_table_is_not_changed(self):
        given = dict(TWO)
        for function in JUST_TABLE:
            function(2, given)
        self.assertEqual(list(given.items()), list(TWO.items()))


class TestWeights(unittest.TestCase):
    """10.2, of weights_of, bar_to_weights and is_bar_to_weights"""

    def test_ordinary_ones(self):
        self.assertEqual(weights_of(2, corners(MEAN2)), ((HALF, HALF), ZERO))
        self.assertEqual(weights_of(1, {(): (1, 4), (0,): HALF}), (((1, 4),), (1, 4)))
        self.assertEqual(weights_of(2, {lot: HALF for lot in TWO}), ((ZERO, ZERO), HALF))
        self.assertIsNone(weights_of(2, TWO))
        self.assertIsNone(weights_of(3, MAJORITY))
        self.assertIsNone(bar_to_weights(2, corners(MEAN2)))

    def test_plain_rules_have_theirs(self):
        for _, made in plain_rules(135, 60):
            found, last = weights_of(made.people, corners(made))
            self.assertIsNone(bar_to_weights(made.people, corners(made)))
            for lot, told in corners(made).items():
                told_by_weights = sum(Fraction(*found[person]) for person in lot) + Fraction(*last)
                self.assertEqual(naive.pair(told_by_weights), told)
            self.assertTrue(all(part[0] >= 0 for part in (*found, last)))
            self.assertEqual([type(found), len(found)], [tuple, made.people])

    def test_tenth_fact_by_chance(self):
        seen = {True: 0, False: 0}
        for _, people, given in tables(136, 200):
            found, bar = weights_of(people, given), bar_to_weights(people, given)
            self.assertIs(found is None, bar is not None)
            bars = [person for person in range(people) for lot in without(people, person)
                    if rise(given, lot, person) != rise(given, (), person)]
            self.assertIs(bool(bars), bar is not None)
            seen[found is None] += 1
            if bar is not None:
                self.assertIs(is_bar_to_weights(people, given, bar), True)
                self.assertTrue(is_bar(people, given, bar))
        self.assertGreater(min(seen.values()), 20)

    def test_is_bar_to_weights(self):
        self.assertIs(is_bar_to_weights(2, TWO, (0, (), (1,))), True)
        self.assertIs(is_bar_to_weights(2, TWO, (0, (1,), ())), True)
        self.assertIs(is_bar_to_weights(2, TWO, (0, (), ())), False)
        self.assertIs(is_bar_to_weights(2, TWO, (0, (), (0,))), False)
        self.assertIs(is_bar_to_weights(2, TWO, (0, (0, 1), (1,))), False)
        self.assertIs(is_bar_to_weights(3, MAJORITY, (1, (0, 2), (2,))), True)
        self.assertIs(is_bar_to_weights(3, MAJORITY, (1, (0, 2), ())), False)
        self.assertIs(is_bar_to_weights(3, MAJORITY, (1, (2, 0), (2,))), False)
        for _, people, given in tables(137, 12):
            for person in range(people):
                for one in naive.all_lots(people):
                    for other in (naive.all_lots(people) if people < 5 else [(), (0,), (1, 2)]):
                        right = is_bar(people, given, (person, one, other)) if person not in one + other else False
                        self.assertIs(is_bar_to_weights(people, given, (person, one, other)), right)

    def test_judges_any_object(self):
        for right in ((0, (), (1,)), (1, (0,), ())):
            self.assertIs(is_bar_to_weights(2, TWO, right), True)
            for thing in spoiled(right) + [right[:2], (*right, ()), [*right], (2, *right[1:]), (0, (), (2,)), (0, (), (1, 1))]:
                self.assertIs(is_bar_to_weights(2, TWO, thing), False)


class TestCounts(unittest.TestCase):
    """10.2, of by_counts, bar_to_counts and is_bar_to_counts"""

    def test_ordinary_ones(self):
        self.assertEqual(by_counts(3, MAJORITY), (ZERO, ZERO, ONE, ONE))
        self.assertEqual(by_counts(3, corners(MEAN3)), (ZERO, (1, 3), (2, 3), ONE))
        self.assertEqual(by_counts(1, {(): (1, 4), (0,): HALF}), ((1, 4), HALF))
        self.assertIsNone(by_counts(2, TWO))
        self.assertEqual(len(by_counts(6, {lot: HALF for lot in naive.all_lots(6)})), 7)
        self.assertIsNone(bar_to_counts(3, MAJORITY))

    def test_tenth_fact_by_chance(self):
        seen = {True: 0, False: 0}
        for rng, people, given in tables(138, 200):
            if rng.random() < 0.3:
                rising = sorted(numbers(rng, people + 1), key=lambda one: Fraction(*one))
                given = {lot: rising[len(lot)] for lot in given}
            found, bar = by_counts(people, given), bar_to_counts(people, given)
            self.assertIs(found is None, bar is not None)
            seen[found is None] += 1
            if found is not None:
                self.assertEqual([type(found), len(found)], [tuple, people + 1])
                self.assertTrue(all(given[lot] == found[len(lot)] for lot in given))
            else:
                one, other = bar
                self.assertTrue(len(one) == len(other) and given[one] != given[other])
                self.assertIs(is_bar_to_counts(people, given, bar), True)
        self.assertGreater(min(seen.values()), 20)

    def test_a_bar_among_the_last_lots_only(self):
        given = {lot: ZERO for lot in naive.all_lots(6)}
        given[(1, 2, 3, 4, 5)] = HALF
        given[(0, 1, 2, 3, 4, 5)] = ONE
        self.assertIsNone(by_counts(6, given))
        self.assertIs(is_bar_to_counts(6, given, bar_to_counts(6, given)), True)
        self.assertIs(is_bar_to_weights(6, given, bar_to_weights(6, given)), True)

    def test_is_bar_to_counts(self):
        for _, people, given in tables(139, 18):
            lots = naive.all_lots(people)[:20] + naive.all_lots(people)[-8:]
            for one, other in combinations(lots, 2):
                right = len(one) == len(other) and given[one] != given[other]
                self.assertIs(is_bar_to_counts(people, given, (one, other)), right)
                self.assertIs(is_bar_to_counts(people, given, (other, one)), right)
                self.assertIs(is_bar_to_counts(people, given, (one, one)), False)

    def test_judges_any_object(self):
        right = ((0,), (1,))
        self.assertIs(is_bar_to_counts(2, TWO, right), True)
        for thing in spoiled(right) + [right[:1], (*right, (0,)), [*right], ((0,), (2,)), ((0,), (-1,)), ((0,), (0, 1))]:
            self.assertIs(is_bar_to_counts(2, TWO, thing), False)


class TestIdle(unittest.TestCase):
    """10.2, of idle"""

    def test_ordinary_ones(self):
        self.assertEqual(idle(2, TWO), ())
        self.assertEqual(idle(1, {(): HALF, (0,): HALF}), (0,))
        self.assertEqual(idle(6, {lot: HALF for lot in naive.all_lots(6)}), tuple(range(6)))
        self.assertEqual(idle(3, corners(Rule(3, ("bid", 1)))), (0, 2))
        # Person 2 stands in the term and changes nothing; person 1 changes the number of one lot alone.
        held = ("greatest", (("bid", 0), ("least", (("bid", 0), ("bid", 2)))))
        self.assertEqual(idle(3, corners(Rule(3, held))), (1, 2))
        self.assertEqual(idle(2, {(): ZERO, (0,): HALF, (1,): ZERO, (0, 1): ONE}), ())

    def test_by_chance_and_the_outcome_does_not_hang_on_them(self):
        many = 0
        for rng, people, given in tables(140, 150):
            found = idle(people, given)
            right = tuple(person for person in range(people)
                          if all(rise(given, lot, person) == 0 for lot in without(people, person)))
            self.assertEqual(found, right)
            many += len(found)
            made = rule_of(people, given)
            wishes = numbers(rng, people)
            other = tuple(number(rng) if person in found else wish for person, wish in enumerate(wishes))
            self.assertEqual(outcome(made, wishes), outcome(made, other))
        self.assertGreater(many, 20)

    def test_of_corners(self):
        for _, made in rules(141, 40):
            self.assertEqual(idle(made.people, corners(made)), idle(made.people, corners(cousin(made))))


if __name__ == "__main__":
    unittest.main()
