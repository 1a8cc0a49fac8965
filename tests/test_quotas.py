"""22.1: weights or a trade."""

import unittest
from itertools import combinations_with_replacement

from cornerbids.corners import corner
from cornerbids.errors import NoNumber
from cornerbids.holders import least_lots, levels
from cornerbids.quotas import first_trade, found_scale, is_scale, is_trade, misjudged, scale, trade
from cornerbids.rules import Rule
from cornerbids.tables import rule_of
from tests import naive
from tests.things import MEAN2, MEAN3, ODD, chance, deep_term, number, rules, spoiled, table, unchecked

ZERO, HALF, ONE = (0, 1), (1, 2), (1, 1)
# 0 and 1, or 2 and 3: two lots that cannot be told from the other pairs by loads.
PAIRS = Rule(4, ("greatest", (("least", (("bid", 0), ("bid", 1))), ("least", (("bid", 2), ("bid", 3))))))
QUARTER = Rule(2, ("between", ZERO, (1, 4), ("bid", 0)))


def held_lots(made, wanted):
    return [lot for lot in naive.all_lots(made.people) if naive.corner(made, lot) >= naive.Fraction(*wanted)]


def right_scale(made, wanted, loads, quota):
    held = held_lots(made, wanted)
    return all((sum(loads[person] for person in lot) >= quota) == (lot in held) for lot in naive.all_lots(made.people))


def right_trade(made, wanted, held, lost):
    holders = held_lots(made, wanted)
    return (len(held) == len(lost) > 0 and all(lot in holders for lot in held) and not any(lot in holders for lot in lost)
            and all(sum(person in lot for lot in held) == sum(person in lot for lot in lost) for person in range(made.people)))


def has_trade(made, wanted, most=2):
    """Whether there is a trade of so few lots each, by trying all."""
    held = held_lots(made, wanted)
    lost = [lot for lot in naive.all_lots(made.people) if lot not in held]
    for many in range(1, most + 1):
        sums = {tuple(sorted(sum(lots, ()))) for lots in combinations_with_replacement(lost, many)}
        if any(tuple(sorted(sum(lots, ()))) in sums for lots in combinations_with_replacement(held, many)):
            return True
    return False


def is_as_strong(one, other):
    """Whether a lot is the other one with people in the place of weaker ones, and perhaps more; 0 is the strongest."""
    return len(one) >= len(other) and all(mine <= theirs for mine, theirs in zip(one, other))


def ordered_families(people):
    """All families of lots that have, with a lot, each one that is as strong."""
    left = naive.all_lots(people)
    order = []
    while left:
        order.append(next(lot for lot in left if not any(other != lot and is_as_strong(other, lot) for other in left)))
        left.remove(order[-1])
    found = [()]
    for lot in order:
        stronger = {other for other in order if other != lot and is_as_strong(other, lot)}
        found.extend([(*family, lot) for family in found if stronger <= set(family)])
    return found


class TestScalesAndTrades(unittest.TestCase):
    def check(self, made, wanted):
        """Just one of both is there, and it is right."""
        loads, exchange = scale(made, wanted), trade(made, wanted)
        self.assertNotEqual(loads is None, exchange is None)
        if loads is not None:
            self.assertEqual([type(loads), len(loads), type(loads[0]), len(loads[0])], [tuple, 2, tuple, made.people])
            self.assertTrue(all(type(load) is int and load >= 0 for load in loads[0]) and type(loads[1]) is int)
            self.assertTrue(right_scale(made, wanted, *loads))
            self.assertIs(is_scale(made, wanted, loads), True)
        else:
            self.assertTrue(right_trade(made, wanted, *exchange))
            self.assertIs(is_trade(made, wanted, exchange), True)
        return loads is not None

    def test_ordinary_ones(self):
        self.assertTrue(self.check(MEAN3, HALF))
        self.assertTrue(self.check(MEAN3, ONE))
        self.assertTrue(self.check(Rule(3, ("least", (("bid", 1), ("greatest", (("bid", 0), ("bid", 2)))))), HALF))
        self.assertFalse(self.check(PAIRS, HALF))
        weighted = Rule(6, ("mean", ((9, ("bid", 0)), (7, ("bid", 1)), (6, ("bid", 2)), (4, ("bid", 3)), (3, ("bid", 4)), (1, ("bid", 5)))))
        for wanted in levels(weighted):
            self.assertTrue(self.check(weighted, wanted))

    def test_numbers_that_all_lots_hold_or_none(self):
        for made, wanted in ((MEAN3, ZERO), (Rule(3, ("fixed", HALF)), HALF), (Rule(3, ("fixed", HALF)), ONE), (QUARTER, HALF),
                             (Rule(1, ("fixed", HALF)), ONE), (Rule(6, ("fixed", ZERO)), ZERO)):
            self.assertTrue(self.check(made, wanted))

    def test_people_who_do_not_count(self):
        for made in (Rule(6, ("bid", 4)), Rule(2, ("bid", 0)), QUARTER):
            self.assertTrue(self.check(made, (1, 5)))
        self.assertIs(is_scale(Rule(3, ("bid", 1)), HALF, ((0, 1, 0), 1)), True)

    def test_by_chance(self):
        seen = {True: 0, False: 0}
        for rng, made in rules(391, 60):
            for one in (made, rule_of(made.people, table(rng, made.people, 3))):
                for wanted in (number(rng), corner(one, rng.choice(naive.all_lots(one.people)))):
                    seen[self.check(one, wanted)] += 1
        rng = chance(392)
        for _ in range(120):
            one = rule_of(6, table(rng, 6, 3))
            seen[self.check(one, rng.choice(levels(one)))] += 1
        self.assertGreater(min(seen.values()), 20)

    def test_sixteenth_fact(self):
        """Of all rules of up to six people.

        Where two people are such that neither is as strong as the other one, two lots with them can be exchanged; else
        people stand in an order of strength, and these are all families of lots that hold a number in one order.
        """
        for people, many in ((1, 3), (2, 5), (3, 10), (4, 27), (5, 119), (6, 1173)):
            families = ordered_families(people)
            self.assertEqual(len(set(families)), many)
            for family in families:
                held = [lot for lot in naive.all_lots(people) if lot in set(family)]
                if first_trade(people, held) is None:
                    loads, quota = found_scale(people, held)
                    self.assertEqual(misjudged(loads, quota, held), [])
                    self.assertGreaterEqual(min(loads), 0)

    def test_where_neither_of_two_people_is_as_strong_there_is_a_trade(self):
        rng = chance(393)
        for _ in range(40):
            made = rule_of(5, table(rng, 5, 2))
            for wanted in levels(made):
                held = held_lots(made, wanted)

                def swaps(strong, weak):
                    return any(tuple(sorted((*lot, strong))) in held and tuple(sorted((*lot, weak))) not in held
                               for lot in naive.all_lots(5) if strong not in lot and weak not in lot)
                if any(swaps(one, other) and swaps(other, one) for one in range(5) for other in range(one)):
                    self.assertFalse(self.check(made, wanted))
                self.assertIs(trade(made, wanted) is not None, has_trade(made, wanted))

    def test_deep_rules(self):
        made = unchecked(2, deep_term(60))
        self.check(made, HALF)
        self.check(made, ONE)


class TestIsScale(unittest.TestCase):
    def test_ordinary_ones(self):
        self.assertIs(is_scale(MEAN3, HALF, ((1, 1, 1), 2)), True)
        self.assertIs(is_scale(MEAN3, HALF, ((3, 2, 2), 4)), True)
        self.assertIs(is_scale(MEAN3, HALF, ((3, 2, 2), 5)), False)
        self.assertIs(is_scale(MEAN3, HALF, ((2, 1, 1), 2)), False)
        self.assertIs(is_scale(MEAN3, HALF, ((10 ** 199, 10 ** 199, 10 ** 199), 10 ** 199 + 1)), True)

    def test_loads_of_0_and_any_quota(self):
        for quota in (0, -1, -(10 ** 199)):
            self.assertIs(is_scale(MEAN2, ZERO, ((0, 0), quota)), True)
            self.assertIs(is_scale(MEAN2, HALF, ((0, 0), quota)), False)
        self.assertIs(is_scale(MEAN2, ZERO, ((0, 0), 1)), False)
        self.assertIs(is_scale(QUARTER, HALF, ((0, 0), 1)), True)
        self.assertIs(is_scale(QUARTER, (1, 4), ((1, 0), 1)), True)
        self.assertIs(is_scale(QUARTER, (1, 4), ((2, -1), 1)), False)
        self.assertIs(is_scale(QUARTER, (1, 4), ((0, 0), 1)), False)

    def test_by_chance(self):
        seen = {True: 0, False: 0}
        for rng, made in rules(394, 150, 3):
            wanted = corner(made, rng.choice(naive.all_lots(3)))
            for _ in range(6):
                loads = tuple(rng.randint(0, 2) for _ in range(3))
                quota = rng.randint(-1, 4)
                right = right_scale(made, wanted, loads, quota)
                self.assertIs(is_scale(made, wanted, (loads, quota)), right)
                seen[right] += 1
        self.assertGreater(min(seen.values()), 50)

    def test_judges_any_object(self):
        right = ((1, 1, 1), 2)
        for wrong in spoiled(right) + [((1, 1), 2), ((1, 1, 1, 1), 2), ((1, 1, 1), 2, 3), [(1, 1, 1), 2], ([1, 1, 1], 2), (1, 1, 1), ((), 2),
                                       ((1, 1, -1), 1), ((True, True, True), 2), ((1, 1, 1), True), ((1, 1, 1), "2"), (2, (1, 1, 1))]:
            if wrong != right:
                self.assertIs(is_scale(MEAN3, HALF, wrong), False)


class TestIsTrade(unittest.TestCase):
    def test_ordinary_ones(self):
        self.assertIs(is_trade(PAIRS, HALF, (((0, 1), (2, 3)), ((0, 2), (1, 3)))), True)
        self.assertIs(is_trade(PAIRS, HALF, (((2, 3), (0, 1)), ((0, 3), (1, 2)))), True)
        self.assertIs(is_trade(PAIRS, HALF, (((0, 2), (1, 3)), ((0, 1), (2, 3)))), False)
        self.assertIs(is_trade(PAIRS, HALF, (((0, 1),), ((0, 2),))), False)
        self.assertIs(is_trade(PAIRS, HALF, (((0, 1),), ((0, 1),))), False)
        self.assertIs(is_trade(PAIRS, HALF, (((0, 1), (2, 3)), ((0, 2), (1, 2)))), False)
        # As many lots of each: the same people alone are not enough.
        self.assertIs(is_trade(PAIRS, HALF, (((0, 1), (2, 3)), ((0, 2), (1,), (3,)))), False)
        self.assertIs(is_trade(PAIRS, HALF, (((0, 1), (2, 3)), ((0, 2), (1, 3), ()))), False)
        self.assertIs(is_trade(PAIRS, HALF, ((), ())), False)

    def test_alike_lots(self):
        self.assertIs(is_trade(PAIRS, HALF, (((0, 1), (0, 1), (2, 3), (2, 3)), ((0, 2), (1, 3), (0, 3), (1, 2)))), True)
        self.assertIs(is_trade(PAIRS, HALF, (((0, 1), (2, 3)) * 3, ((0, 2), (1, 3)) * 3)), True)
        self.assertIs(is_trade(PAIRS, HALF, (((0, 1),) * 2 + ((2, 3),), ((0, 2), (1, 3)) * 2)), False)
        self.assertIs(is_trade(PAIRS, HALF, (((0, 1), (2, 3)) * 800, ((0, 2), (1, 3)) * 800)), True)

    def test_by_chance(self):
        seen = {True: 0, False: 0}
        rng = chance(395)
        for _ in range(1500):
            made = rng.choice((PAIRS, PAIRS, rule_of(4, table(rng, 4, 2))))
            wanted = rng.choice(levels(made)[1:] or [ONE])
            held = [rng.choice(least_lots(made, wanted) or [()]) for _ in range(rng.randint(1, 4))]
            # The same people, seated otherwise.
            seats = [(person, rng.randrange(len(held))) for lot in held for person in lot]
            lost = tuple(tuple(sorted({person for person, at in seats if at == one})) for one in range(len(held)))
            right = right_trade(made, wanted, held, lost)
            self.assertIs(is_trade(made, wanted, (tuple(held), lost)), right)
            seen[right] += 1
        self.assertGreater(min(seen.values()), 30)

    def test_judges_any_object(self):
        right = (((0, 1), (2, 3)), ((0, 2), (1, 3)))
        for wrong in spoiled(right) + [right[0], right + right, list(right), (list(right[0]), right[1]), (((1, 0), (2, 3)), right[1]),
                                       (((0, 1), (2, 3), ()), (*right[1], ())), (((0, 1, 1), (2, 3)), ((0, 2), (1, 1, 3)))]:
            if wrong != right:
                self.assertIs(is_trade(PAIRS, HALF, wrong), False)


class TestErrors(unittest.TestCase):
    def test_no_number(self):
        for wrong in spoiled(HALF) + [(2, 4), (3, 2), 0, 1]:
            for made in (MEAN3, PAIRS):
                self.assertRaises(NoNumber, scale, made, wrong)
                self.assertRaises(NoNumber, trade, made, wrong)
                for thing in (None, ((1, 1, 1), 2), (((0, 1), (2, 3)), ((0, 2), (1, 3)))):
                    self.assertRaises(NoNumber, is_scale, made, wrong, thing)
                    self.assertRaises(NoNumber, is_trade, made, wrong, thing)
        for thing in ODD:
            self.assertIs(is_scale(MEAN3, HALF, thing), False)
            self.assertIs(is_trade(PAIRS, HALF, thing), False)


if __name__ == "__main__":
    unittest.main()
