"""3.1 and 3.2: bent lines."""

import unittest
from fractions import Fraction
from itertools import combinations

from cornerbids.errors import NoBent, NoBids, NoLot, NoNumber, NoPerson, NoWishes
from cornerbids.lines import bids_for, foreseen_line, line, told_at
from cornerbids.outcomes import outcome_behind
from cornerbids.rules import Rule, mirrored, value
from tests import naive
from tests.things import MEAN3, ODD, chance, deep_term, number, numbers, rules, spoiled, unchecked

WISHES = ((0, 1), (1, 2), (1, 1))
BENT = (((0, 1), (0, 1)), ((1, 2), (1, 2)), ((1, 1), (1, 2)))
STEEP = (((0, 1), (1, 4)), ((1, 3), (1, 4)), ((2, 3), (3, 4)), ((1, 1), (3, 4)))
FLAT = (((0, 1), (2, 5)), ((1, 1), (2, 5)))
GRID = [Fraction(at, 48) for at in range(49)]

WRONG_LINES = [
    (), (((0, 1), (0, 1)),), (((0, 1), (0, 1)), ((1, 2), (1, 2))), (((1, 2), (0, 1)), ((1, 1), (1, 2))),
    (((0, 1), (1, 2)), ((1, 1), (1, 3))), (((0, 1), (0, 1)), ((1, 2), (1, 2)), ((1, 1), (1, 1))),
    (((0, 1), (1, 3)), ((1, 2), (1, 3)), ((1, 1), (1, 3))), (((0, 1), (0, 1)), ((0, 1), (1, 2)), ((1, 1), (1, 1))),
    (((0, 1), (0, 1)), ((1, 1), (1, 2)), ((1, 1), (1, 1))), (((0, 1), (0, 1)), ((1, 2), (1, 1)), ((1, 1), (1, 2))),
    (((0, 1), (0, 1)), ((2, 3), (1, 5)), ((1, 3), (1, 2)), ((1, 1), (1, 1))), list(BENT), BENT[::-1], tuple(map(list, BENT)),
    (((0, 1), (0, 1)), ((1, 1), (2, 1))), (((0, 1), (0, 1), (0, 1)), ((1, 1), (1, 1), (1, 1))),
    (((0, 1), (0, 1)), ((1, 3), (0, 1)), ((2, 3), (0, 1)), ((1, 1), (1, 1))), ((0, 1), (1, 1)), ((0, 0), (1, 1)),
]


def is_line(thing):
    pairs = [(Fraction(*place), Fraction(*told)) for place, told in thing]
    slopes = [(b[1] - a[1]) / (b[0] - a[0]) for a, b in zip(pairs, pairs[1:])]
    return (isinstance(thing, tuple) and pairs[0][0] == 0 and pairs[-1][0] == 1 and all(slope >= 0 for slope in slopes)
            and all(a[0] < b[0] for a, b in zip(pairs, pairs[1:])) and all(a != b for a, b in zip(slopes, slopes[1:]))
            and all(part == naive.pair(Fraction(*part)) for pair in thing for part in pair))


def told_on(thing, place):
    for (left, low), (right, high) in zip(thing, thing[1:]):
        left, low, right, high = (Fraction(*part) for part in (left, low, right, high))
        if left <= place <= right:
            return low + (high - low) * (place - left) / (right - left)
    raise AssertionError(place)


def places_of(thing):
    """Enough places to tell a line by: the grid, and the ends and thirds of all pieces."""
    ends = [Fraction(*place) for place, _ in thing]
    return GRID + ends + [a + (b - a) * part / 3 for a, b in zip(ends, ends[1:]) for part in (1, 2)]


class TestLine(unittest.TestCase):
    """3.1, of line"""

    def test_each_word(self):
        one, other = ("bid", 0), ("bid", 1)
        bids = ((0, 1), (1, 2))
        told = {
            one: (((0, 1), (0, 1)), ((1, 1), (1, 1))), other: (((0, 1), (1, 2)), ((1, 1), (1, 2))),
            ("fixed", (1, 3)): (((0, 1), (1, 3)), ((1, 1), (1, 3))),
            ("mean", ((1, one), (3, other))): (((0, 1), (3, 8)), ((1, 1), (5, 8))),
            ("least", (one, other)): BENT,
            ("greatest", (one, other)): (((0, 1), (1, 2)), ((1, 2), (1, 2)), ((1, 1), (1, 1))),
            ("between", (1, 4), (2, 3), one): (((0, 1), (1, 4)), ((1, 4), (1, 4)), ((2, 3), (2, 3)), ((1, 1), (2, 3))),
            ("between", (1, 2), (1, 2), one): (((0, 1), (1, 2)), ((1, 1), (1, 2))),
            ("between", (0, 1), (1, 1), one): (((0, 1), (0, 1)), ((1, 1), (1, 1))),
            ("ranked", 2, (one, other, ("fixed", (3, 4)))):
                (((0, 1), (1, 2)), ((1, 2), (1, 2)), ((3, 4), (3, 4)), ((1, 1), (3, 4))),
        }
        for term, bent in told.items():
            self.assertEqual(line(Rule(2, term), bids, 0), bent)

    def test_ones_own_bid_means_nothing(self):
        rule = Rule(3, ("ranked", 2, (("bid", 0), ("bid", 1), ("bid", 2))))
        told = [line(rule, ((1, 3), bid, (2, 3)), 1) for bid in ((0, 1), (1, 2), (1, 1))]
        self.assertEqual(told[0], (((0, 1), (1, 3)), ((1, 3), (1, 3)), ((2, 3), (2, 3)), ((1, 1), (2, 3))))
        self.assertEqual(told[1:], told[:1] * 2)

    def test_who_stands_nowhere_has_a_flat_line_of_two_pairs(self):
        self.assertEqual(line(Rule(2, ("bid", 0)), ((1, 3), (1, 2)), 1), (((0, 1), (1, 3)), ((1, 1), (1, 3))))

    def test_no_pair_on_a_straight_way(self):
        # The bends of both parts of the mean undo one another.
        bound = (("least", (("bid", 0), ("fixed", (1, 2)))), ("greatest", (("bid", 0), ("fixed", (1, 2)))))
        rule = Rule(1, ("mean", ((1, bound[0]), (1, bound[1]))))
        self.assertEqual(line(rule, ((0, 1),), 0), (((0, 1), (1, 4)), ((1, 1), (3, 4))))

    def test_by_chance(self):
        for rng, rule in rules(31, 150, depth=4):
            bids = numbers(rng, rule.people)
            person = rng.randrange(rule.people)
            bent = line(rule, bids, person)
            self.assertTrue(is_line(bent), bent)
            given = naive.fractions_of(bids)
            for place in places_of(bent):
                given[person] = place
                self.assertEqual(told_on(bent, place), naive.told(rule.term, given))

    def test_person_many_times_in_wide_terms(self):
        rng = chance(32)
        for _ in range(20):
            ways = [("mean", ((rng.randint(1, 5), ("bid", 0)), (rng.randint(1, 5), ("fixed", number(rng, 9))))) for _ in range(8)]
            rule = Rule(1, ("mean", ((1, ("ranked", rng.randint(1, 8), tuple(ways))), (1, ("bid", 0)))))
            bent = line(rule, ((0, 1),), 0)
            self.assertTrue(is_line(bent))
            for place in places_of(bent):
                self.assertEqual(told_on(bent, place), naive.told(rule.term, [place]))

    def test_rules_beyond_the_bounds(self):
        for depth in (30, 59, 60):
            rule = unchecked(2, deep_term(depth))
            for person in (0, 1):
                bent = line(rule, ((1, 3), (4, 5)), person)
                self.assertTrue(is_line(bent))
                for place in GRID[::6]:
                    given = [Fraction(1, 3), Fraction(4, 5)]
                    given[person] = place
                    self.assertEqual(told_on(bent, place), naive.told(rule.term, given))

    def test_errors_in_their_order(self):
        for wrong in spoiled(WISHES) + [(), WISHES[:2], WISHES * 2]:
            self.assertRaises(NoBids, line, MEAN3, wrong, None)
        for wrong in ODD + [3, 6, -1, True, (0,)]:
            self.assertRaises(NoPerson, line, MEAN3, WISHES, wrong)


class TestToldAt(unittest.TestCase):
    """3.1, of told_at"""

    def test_at_pairs_and_between_them(self):
        told = {(0, 1): (1, 4), (1, 6): (1, 4), (1, 3): (1, 4), (1, 2): (1, 2), (5, 12): (3, 8), (2, 3): (3, 4), (1, 1): (3, 4)}
        for place, number_there in told.items():
            self.assertEqual(told_at(STEEP, place), number_there)
        self.assertEqual(told_at(FLAT, (3, 7)), (2, 5))

    def test_of_lines_that_line_did_not_tell(self):
        long = tuple(((at, 500), (at * at, 250000)) for at in range(501))
        long = tuple((naive.pair(Fraction(*place)), naive.pair(Fraction(*told))) for place, told in long)
        self.assertEqual(told_at(long, (1, 2)), (1, 4))
        self.assertEqual(told_at(long, (1, 1000)), (1, 500000))
        jump = (((0, 1), (0, 1)), ((10 ** 199 - 1, 10 ** 199), (0, 1)), ((1, 1), (1, 1)))
        self.assertEqual(told_at(jump, (1, 2)), (0, 1))
        self.assertEqual(told_at(jump, (2 * 10 ** 199 - 1, 2 * 10 ** 199)), (1, 2))

    def test_errors_in_their_order(self):
        for wrong in WRONG_LINES + spoiled(BENT):
            for function in (told_at, bids_for):
                self.assertRaises(NoBent, function, wrong, (1, 2))
                self.assertRaises(NoBent, function, wrong, None)
        for wrong in spoiled((1, 2)):
            for function in (told_at, bids_for):
                self.assertRaises(NoNumber, function, BENT, wrong)


class TestBidsFor(unittest.TestCase):
    """3.1, of bids_for"""

    def test_ordinary_ones(self):
        told = {(0, 1): None, (1, 5): None, (1, 4): ((0, 1), (1, 3)), (1, 2): ((1, 2), (1, 2)), (3, 8): ((5, 12), (5, 12)),
                (3, 4): ((2, 3), (1, 1)), (4, 5): None, (1, 1): None}
        for at, pair in told.items():
            self.assertEqual(bids_for(STEEP, at), pair)

    def test_flat_all_along(self):
        self.assertEqual(bids_for(FLAT, (2, 5)), ((0, 1), (1, 1)))
        self.assertIsNone(bids_for(FLAT, (1, 5)))
        self.assertIsNone(bids_for(FLAT, (3, 5)))

    def test_at_the_ends(self):
        straight = (((0, 1), (0, 1)), ((1, 1), (1, 1)))
        for at in ((0, 1), (2, 7), (1, 1)):
            self.assertEqual(bids_for(straight, at), (at, at))
        self.assertEqual(bids_for(BENT, (0, 1)), ((0, 1), (0, 1)))
        self.assertEqual(bids_for(BENT, (1, 2)), ((1, 2), (1, 1)))

    def test_flat_in_the_middle(self):
        bent = (((0, 1), (0, 1)), ((1, 4), (1, 3)), ((3, 4), (1, 3)), ((1, 1), (1, 1)))
        self.assertEqual(bids_for(bent, (1, 3)), ((1, 4), (3, 4)))
        self.assertEqual(bids_for(bent, (2, 3)), ((7, 8), (7, 8)))

    def test_by_chance(self):
        for rng, rule in rules(33, 80):
            bent = line(rule, numbers(rng, rule.people), rng.randrange(rule.people))
            for told in [number(rng, 12) for _ in range(5)] + [pair[1] for pair in bent]:
                found = bids_for(bent, told)
                there = [place for place in places_of(bent) if told_on(bent, place) == Fraction(*told)]
                if found is None:
                    self.assertFalse(Fraction(*bent[0][1]) <= Fraction(*told) <= Fraction(*bent[-1][1]))
                    continue
                low, high = Fraction(*found[0]), Fraction(*found[1])
                self.assertTrue(all(low <= place <= high for place in there))
                self.assertEqual({told_on(bent, low), told_on(bent, high)}, {Fraction(*told)})
                tiny = Fraction(1, 10 ** 6)
                self.assertTrue(low == 0 or told_on(bent, max(low - tiny, Fraction(0))) < Fraction(*told))
                self.assertTrue(high == 1 or told_on(bent, min(high + tiny, Fraction(1))) > Fraction(*told))


class TestForeseenLine(unittest.TestCase):
    """3.2, of foreseen_line"""

    def test_ordinary_ones(self):
        self.assertEqual(foreseen_line(MEAN3, WISHES, WISHES, 0, (1, 2)), (((0, 1), (1, 2)), ((1, 2), (1, 2)), ((1, 1), (2, 3))))
        self.assertEqual(foreseen_line(MEAN3, WISHES, WISHES, 1, (2,)), (((0, 1), (1, 3)), ((1, 1), (2, 3))))

    def test_with_none_later_it_is_the_line(self):
        for rng, rule in rules(34, 40):
            wishes, bids = numbers(rng, rule.people), numbers(rng, rule.people)
            person = rng.randrange(rule.people)
            self.assertEqual(foreseen_line(rule, wishes, bids, person, ()), line(rule, bids, person))

    def test_by_chance(self):
        for rng, rule in rules(35, 100):
            wishes, bids = numbers(rng, rule.people), numbers(rng, rule.people)
            person = rng.randrange(rule.people)
            others = [one for one in range(rule.people) if one != person]
            later = rng.choice(list(combinations(others, rng.randint(0, len(others)))))
            bent = foreseen_line(rule, wishes, bids, person, later)
            self.assertTrue(is_line(bent), bent)
            for place in places_of(bent)[::3]:
                given = (*bids[:person], naive.pair(place), *bids[person + 1:])
                self.assertEqual(told_on(bent, place), naive.behind(rule, wishes, given, later))

    def test_told_at_is_outcome_behind(self):
        for rng, rule in rules(36, 30):
            wishes, bids = numbers(rng, rule.people), numbers(rng, rule.people)
            later = tuple(range(1, rule.people))
            bent = foreseen_line(rule, wishes, bids, 0, later)
            self.assertEqual(told_at(bent, bids[0]), outcome_behind(rule, wishes, bids, later))

    def test_rules_beyond_the_bounds(self):
        rule = unchecked(2, deep_term(60))
        bent = foreseen_line(rule, ((1, 3), (2, 3)), ((0, 1), (0, 1)), 1, (0,))
        self.assertTrue(is_line(bent))
        self.assertEqual(told_at(line(mirrored(rule), ((1, 2), (1, 2)), 0), (1, 2)), value(mirrored(rule), ((1, 2), (1, 2))))

    def test_errors_in_their_order(self):
        right = (WISHES, WISHES, 0, (1, 2))
        for wrong in spoiled(WISHES) + [(), WISHES[:2]]:
            self.assertRaises(NoWishes, foreseen_line, MEAN3, wrong, None, None, None)
            self.assertRaises(NoBids, foreseen_line, MEAN3, WISHES, wrong, None, None)
        for wrong in ODD + [3, True]:
            self.assertRaises(NoPerson, foreseen_line, MEAN3, *right[:2], wrong, (5,))
        lots = spoiled((1, 2)) + [(0,), (0, 1), (0, 1, 2), (2, 1), (1, 1), (1, 3), [1], [], 1, (True,)]
        for wrong in lots:
            self.assertRaises(NoLot, foreseen_line, MEAN3, *right[:3], wrong)
        self.assertRaises(NoLot, foreseen_line, MEAN3, WISHES, WISHES, 1, (True,))


if __name__ == "__main__":
    unittest.main()
