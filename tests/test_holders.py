"""17.1: who holds a number."""

import unittest
from fractions import Fraction

from cornerbids.comparing import cousin
from cornerbids.corners import corner
from cornerbids.errors import NoNumber
from cornerbids.holders import alone, least_blocks, least_lots, levels, swings, vetoes
from cornerbids.rules import Rule
from cornerbids.tables import rule_of
from tests import naive
from tests.things import MEAN2, MEAN3, chance, deep_term, number, rules, spoiled, table, unchecked

ZERO, HALF, ONE = (0, 1), (1, 2), (1, 1)
ALL = (least_lots, least_blocks, vetoes, swings, alone)
VETO = Rule(3, ("least", (("bid", 1), ("greatest", (("bid", 0), ("bid", 2))))))
QUARTER = Rule(2, ("between", ZERO, (1, 4), ("bid", 0)))


def holds(made, lot, wanted):
    return naive.corner(made, lot) >= Fraction(*wanted)


def others(made, lot):
    return tuple(person for person in range(made.people) if person not in lot)


def least(lots):
    """Those within which there is no other one."""
    return [lot for lot in lots if not any(set(other) < set(lot) for other in lots)]


def wanted_of(rng, made):
    lots = naive.all_lots(made.people)
    return [ZERO, ONE, number(rng), corner(made, rng.choice(lots)), corner(made, lots[-1]), corner(made, ())]


def cases(seed, many):
    for rng, made in rules(seed, many):
        for one in (made, rule_of(made.people, table(rng, made.people, 3))):
            for wanted in wanted_of(rng, one):
                yield one, wanted


class TestHolders(unittest.TestCase):
    def test_ordinary_ones(self):
        self.assertEqual(least_lots(MEAN3, HALF), [(0, 1), (0, 2), (1, 2)])
        self.assertEqual(least_lots(MEAN3, (1, 3)), [(0,), (1,), (2,)])
        self.assertEqual(least_blocks(MEAN3, HALF), [(0, 1), (0, 2), (1, 2)])
        self.assertEqual(least_blocks(MEAN3, ONE), [(0,), (1,), (2,)])
        self.assertEqual(swings(MEAN3, HALF), (2, 2, 2))
        self.assertEqual(least_lots(VETO, HALF), [(0, 1), (1, 2)])
        self.assertEqual(least_blocks(VETO, HALF), [(1,), (0, 2)])
        self.assertEqual(vetoes(VETO, HALF), (1,))
        self.assertEqual(vetoes(MEAN3, ONE), (0, 1, 2))
        self.assertEqual(vetoes(MEAN3, HALF), ())
        self.assertEqual(swings(VETO, HALF), (1, 3, 1))
        self.assertIsNone(alone(VETO, HALF))
        self.assertEqual(levels(MEAN3), [ZERO, (1, 3), (2, 3), ONE])
        self.assertEqual(levels(VETO), [ZERO, ONE])

    def test_lots_are_ordered_by_how_many_they_are_then_as_tuples(self):
        made = Rule(4, ("mean", ((1, ("bid", 0)), (1, ("bid", 1)), (1, ("bid", 2)), (2, ("bid", 3)))))
        self.assertEqual(least_lots(made, (3, 5)), [(0, 3), (1, 3), (2, 3), (0, 1, 2)])

    def test_one_person_who_alone_counts(self):
        for person in range(4):
            made = Rule(4, ("greatest", (("bid", person), ("least", (("bid", 0), ("bid", 1), ("bid", 2), ("bid", 3), ("fixed", (1, 3)))))))
            self.assertEqual(alone(made, HALF), person)
            self.assertEqual(least_lots(made, HALF), [(person,)])
            self.assertEqual(least_blocks(made, HALF), [(person,)])
            self.assertEqual(vetoes(made, HALF), (person,))
            self.assertEqual(swings(made, HALF), tuple(8 if other == person else 0 for other in range(4)))
        self.assertEqual(alone(Rule(1, ("bid", 0)), HALF), 0)
        self.assertIsNone(alone(MEAN2, HALF))
        self.assertIsNone(alone(MEAN2, ONE))
        # Who alone holds it must be there, too.
        self.assertIsNone(alone(Rule(2, ("greatest", (("bid", 0), ("bid", 1)))), HALF))

    def test_a_number_that_all_lots_hold(self):
        for made in (MEAN3, VETO, Rule(3, ("fixed", HALF))):
            self.assertEqual(least_lots(made, ZERO), [()])
            self.assertEqual(least_blocks(made, ZERO), [])
            self.assertEqual(vetoes(made, ZERO), ())
            self.assertEqual(swings(made, ZERO), (0, 0, 0))
            self.assertIsNone(alone(made, ZERO))
        self.assertEqual(least_lots(Rule(3, ("fixed", HALF)), HALF), [()])

    def test_a_number_that_no_lot_holds(self):
        for wanted in (HALF, ONE, (13, 50)):
            self.assertEqual(least_lots(QUARTER, wanted), [])
            self.assertEqual(least_blocks(QUARTER, wanted), [()])
            self.assertEqual(vetoes(QUARTER, wanted), (0, 1))
            self.assertEqual(swings(QUARTER, wanted), (0, 0))
            self.assertIsNone(alone(QUARTER, wanted))
        self.assertEqual(least_lots(QUARTER, (1, 4)), [(0,)])
        self.assertEqual(vetoes(QUARTER, (1, 4)), (0,))

    def test_by_chance(self):
        for made, wanted in cases(331, 40):
            lots = naive.all_lots(made.people)
            held = [lot for lot in lots if holds(made, lot, wanted)]
            blocked = [lot for lot in lots if not holds(made, others(made, lot), wanted)]
            self.assertEqual(least_lots(made, wanted), least(held))
            self.assertEqual(least_blocks(made, wanted), least(blocked))
            everybody = range(made.people)
            veto = tuple(person for person in everybody if not holds(made, others(made, (person,)), wanted))
            self.assertEqual(vetoes(made, wanted), veto)
            swung = tuple(sum(person not in lot and lot not in held and tuple(sorted((*lot, person))) in held for lot in lots)
                          for person in everybody)
            self.assertEqual(swings(made, wanted), swung)
            lone = [person for person in everybody if held == [lot for lot in lots if person in lot]]
            self.assertEqual(alone(made, wanted), lone[0] if lone else None)
            self.assertLessEqual(len(lone), 1)

    def test_thirteenth_fact(self):
        for made, wanted in cases(332, 25):
            held = least_lots(made, wanted)
            blocks = least_blocks(made, wanted)
            for lot in naive.all_lots(made.people):
                blocked = not holds(made, others(made, lot), wanted)
                self.assertIs(all(set(lot) & set(one) for one in held), blocked)
                self.assertIs(any(set(one) <= set(lot) for one in blocks), blocked)

    def test_levels(self):
        for rng, made in rules(333, 60):
            for one in (made, cousin(made), rule_of(made.people, table(rng, made.people))):
                told = sorted({naive.corner(one, lot) for lot in naive.all_lots(one.people)})
                self.assertEqual(levels(one), [naive.pair(number) for number in told])
        self.assertEqual(levels(Rule(6, ("fixed", HALF))), [HALF])
        # By their worth, not as tuples.
        made = Rule(2, ("mean", ((9, ("bid", 0)), (2, ("bid", 1)))))
        self.assertEqual(levels(made), [ZERO, (2, 11), (9, 11), ONE])

    def test_each_list_is_new(self):
        for made, given in ((MEAN3, (HALF,)), (QUARTER, (ONE,))):
            for function in (least_lots, least_blocks):
                first = function(made, *given)
                kept = list(first)
                first.append(None)
                self.assertEqual(function(made, *given), kept)
            first = levels(made)
            first.clear()
            self.assertNotEqual(levels(made), [])

    def test_deep_rules(self):
        made = unchecked(2, deep_term(60))
        for function in ALL:
            function(made, HALF)
        self.assertEqual(levels(made)[0], corner(made, ()))


class TestErrors(unittest.TestCase):
    def test_no_number(self):
        for function in ALL:
            for made in (MEAN3, QUARTER):
                for wrong in spoiled(HALF) + [(2, 4), (3, 2), 0, 1]:
                    self.assertRaises(NoNumber, function, made, wrong)

    def test_numbers_at_the_edge_of_a_corner(self):
        rng = chance(334)
        for _ in range(20):
            made = Rule(3, ("mean", tuple((rng.randint(1, 9), ("bid", person)) for person in range(3))))
            told = corner(made, (0, 2))
            self.assertTrue(any(set(lot) <= {0, 2} for lot in least_lots(made, told)))
            above = naive.pair(Fraction(*told) + Fraction(1, 10 ** 150))
            self.assertFalse(any(set(lot) <= {0, 2} for lot in least_lots(made, above)))


if __name__ == "__main__":
    unittest.main()
