"""19.1: moves with any rule, and talks."""

import unittest
from fractions import Fraction

from cornerbids.errors import NoBids, NoMany, NoOrder, NoPerson, NoWishes
from cornerbids.honest import best_for
from cornerbids.plain import is_quiet, run, turn
from cornerbids.rests import is_single_rest
from cornerbids.rules import Rule
from cornerbids.talks import ending, move, stayers, talk
from tests import naive
from tests.things import MEAN2, MEAN3, ODD, chance, deep_term, number, numbers, rules, spoiled, unchecked
from tests.test_plays import WRONG_SCHEDULES, schedule_of

ZERO, HALF, ONE = (0, 1), (1, 2), (1, 1)
WISHES = (ZERO, HALF, ONE)
LEAST = Rule(2, ("least", (("bid", 0), ("bid", 1))))
MIDDLE = Rule(2, ("between", (1, 3), (2, 3), ("bid", 0)))


def placed(bids, person, bid):
    return (*bids[:person], bid, *bids[person + 1:])


def told_for(made, bids, person, bid):
    return naive.value(made, placed(bids, person, bid))


def naive_move(made, wishes, bids, person):
    """The nearest one to the elder bid of the best bids, of which all between two are one."""
    low, high = naive.fractions_of(best_for(made, bids, person, wishes[person]))
    return placed(bids, person, naive.pair(min(max(Fraction(*bids[person]), low), high)))


def naive_talk(made, wishes, bids, order, many):
    seen = []
    made_moves = 0
    while True:
        place = made_moves % len(order)
        if is_single_rest(made, wishes, bids):
            return ("rest", bids, made_moves)
        if (place, bids) in seen:
            return ("round", bids, made_moves)
        if made_moves == many:
            return ("on", bids, made_moves)
        seen.append((place, bids))
        bids = naive_move(made, wishes, bids, order[place])
        made_moves += 1


def plain_rules(seed, many):
    rng = chance(seed)
    for _ in range(many):
        people = rng.randint(1, 6)
        parts = [(rng.randint(1, 9), ("bid", person)) for person in range(people)] + [(rng.randint(1, 5), ("fixed", number(rng)))]
        rng.shuffle(parts)
        yield rng, Rule(people, ("mean", tuple(parts)))


class TestMove(unittest.TestCase):
    def test_ordinary_ones(self):
        self.assertEqual(move(MEAN2, ((1, 4), ZERO), (ZERO, ZERO), 0), (HALF, ZERO))
        self.assertEqual(move(MEAN2, (ONE, ZERO), (ZERO, ZERO), 0), (ONE, ZERO))
        self.assertEqual(move(MEAN2, (ONE, ZERO), (ONE, HALF), 1), (ONE, ZERO))

    def test_a_best_bid_stays_whatever_other_ones_there_are(self):
        for bid in ((1, 5), (1, 3), HALF, ONE):
            self.assertEqual(move(LEAST, (ONE, ZERO), (bid, (1, 5)), 0), (bid, (1, 5)))
        for bid in (ZERO, (1, 4), (1, 3)):
            self.assertEqual(move(MIDDLE, (ZERO, ZERO), (bid, ONE), 0), (bid, ONE))

    def test_the_best_bid_that_is_nearest(self):
        # From below the least of the best bids, from above the greatest one.
        self.assertEqual(move(LEAST, (ONE, ZERO), ((1, 7), (1, 5)), 0), ((1, 5), (1, 5)))
        self.assertEqual(move(MIDDLE, (ZERO, ZERO), (ONE, ONE), 0), ((1, 3), ONE))
        self.assertEqual(move(MIDDLE, (ZERO, ZERO), (HALF, ONE), 0), ((1, 3), ONE))
        self.assertEqual(move(MIDDLE, (ONE, ZERO), (HALF, ONE), 0), ((2, 3), ONE))
        # Who has no say at all stays.
        self.assertEqual(move(MIDDLE, (ONE, ZERO), (HALF, ONE), 1), (HALF, ONE))

    def test_by_chance(self):
        for rng, made in rules(361, 150):
            wishes = numbers(rng, made.people)
            bids = numbers(rng, made.people)
            stay = []
            for person in range(made.people):
                found = move(made, wishes, bids, person)
                self.assertEqual(found, naive_move(made, wishes, bids, person))
                wish = Fraction(*wishes[person])
                miss = abs(told_for(made, bids, person, found[person]) - wish)
                far = abs(Fraction(*found[person]) - Fraction(*bids[person]))
                for step in range(25):
                    bid = Fraction(step, 24)
                    other = abs(told_for(made, bids, person, naive.pair(bid)) - wish)
                    self.assertLessEqual(miss, other)
                    # No best bid is nearer to the elder one.
                    self.assertTrue(other > miss or abs(bid - Fraction(*bids[person])) >= far)
                if found == bids:
                    stay.append(person)
                self.assertEqual(move(made, wishes, found, person), found)
            self.assertEqual(stayers(made, wishes, bids), tuple(stay))
            self.assertIs(len(stay) == made.people, is_single_rest(made, wishes, bids))

    def test_stayers(self):
        self.assertEqual(stayers(MEAN3, WISHES, WISHES), (0, 1, 2))
        self.assertEqual(stayers(MEAN3, WISHES, (ZERO, ZERO, ONE)), (0, 2))
        self.assertEqual(stayers(MEAN3, WISHES, (ONE, ZERO, ZERO)), ())
        self.assertEqual(stayers(MEAN3, WISHES, (HALF, HALF, HALF)), (1,))


class TestTalk(unittest.TestCase):
    def test_ordinary_ones(self):
        self.assertEqual(talk(MEAN3, WISHES, (ZERO,) * 3, (0, 1, 2), 2000), ("rest", (ZERO, HALF, ONE), 5))
        # Neither alone can bring more of a least of two, so they stay where they are.
        self.assertEqual(talk(LEAST, (ONE, ONE), (ZERO, ZERO), (0, 1), 9), ("rest", (ZERO, ZERO), 0))
        self.assertEqual(talk(LEAST, (ONE, ONE), (ZERO, HALF), (1, 0), 9), ("rest", (HALF, HALF), 2))
        self.assertEqual(talk(MEAN2, (ONE, ZERO), (ZERO, ONE), (1, 0), 5), ("rest", (ONE, ZERO), 2))

    def test_no_move_at_all(self):
        self.assertEqual(talk(MEAN3, WISHES, WISHES, (0, 1, 2), 0), ("rest", WISHES, 0))
        self.assertEqual(talk(MEAN3, WISHES, WISHES, (0, 1, 2), 2000), ("rest", WISHES, 0))
        self.assertEqual(talk(MEAN3, WISHES, (ZERO,) * 3, (0, 1, 2), 0), ("on", (ZERO,) * 3, 0))

    def test_moves_that_change_nothing_are_moves(self):
        bids = (ZERO, ZERO, ONE)
        self.assertEqual(talk(MEAN3, WISHES, bids, (0, 2, 0, 1), 2000), ("rest", (ZERO, HALF, ONE), 4))
        self.assertEqual(talk(MEAN3, WISHES, bids, (0, 2, 0, 1), 3), ("on", bids, 3))

    def test_rest_comes_ahead_of_on(self):
        self.assertEqual(talk(MEAN2, (ONE, ZERO), (ZERO, ONE), (0, 1), 2), ("rest", (ONE, ZERO), 2))
        self.assertEqual(talk(MEAN2, (ONE, ZERO), (ZERO, ONE), (0, 1), 1), ("on", (ONE, ONE), 1))

    def test_the_first_end_that_holds(self):
        wishes, bids = (ONE, ZERO), (ZERO, ONE)
        self.assertEqual(ending(MEAN2, wishes, (ONE, ZERO), True, True), "rest")
        self.assertEqual(ending(MEAN2, wishes, (ONE, ZERO), False, False), "rest")
        self.assertEqual(ending(MEAN2, wishes, bids, True, True), "round")
        self.assertEqual(ending(MEAN2, wishes, bids, True, False), "round")
        self.assertEqual(ending(MEAN2, wishes, bids, False, True), "on")
        self.assertIsNone(ending(MEAN2, wishes, bids, False, False))

    def test_by_chance(self):
        seen = {}
        for rng, made in rules(362, 250):
            order = schedule_of(rng, made.people, 9)
            wishes = numbers(rng, made.people)
            bids = numbers(rng, made.people)
            for many in (rng.randint(0, 5), 40):
                found = talk(made, wishes, bids, order, many)
                self.assertEqual(found, naive_talk(made, wishes, bids, order, many))
                seen[found[0]] = seen.get(found[0], 0) + 1
        self.assertGreater(min(seen["rest"], seen["on"]), 50)
        # Who wishes most of those who move only ever bids more once the number is between their wishes: no talk is round.
        self.assertNotIn("round", seen)

    def test_fourteenth_fact(self):
        for rng, made in plain_rules(363, 40):
            order = schedule_of(rng, made.people, 9)
            wishes = numbers(rng, made.people)
            bids = numbers(rng, made.people)
            for person in range(made.people):
                self.assertEqual(move(made, wishes, bids, person), turn(made, wishes, bids, person))
            word, last, many = talk(made, wishes, bids, order, 2000)
            self.assertNotEqual(word, "round")
            if word == "rest":
                self.assertIs(is_quiet(made, wishes, last), True)
                self.assertEqual(run(made, wishes, bids, order)[0], last)
                self.assertGreaterEqual(many, run(made, wishes, bids, order)[1])

    def test_up_to_2000_moves(self):
        wishes = (HALF, (500001, 1000000))
        word, bids, many = talk(MEAN2, wishes, (HALF, HALF), (0, 1), 2000)
        self.assertEqual((word, many), ("on", 2000))
        step = 2 * (Fraction(*wishes[1]) - Fraction(*wishes[0]))
        self.assertEqual(Fraction(*bids[1]) - Fraction(*talk(MEAN2, wishes, (HALF, HALF), (0, 1), 1998)[1][1]), step)

    def test_one_person(self):
        made = Rule(1, ("bid", 0))
        self.assertEqual(talk(made, (HALF,), (ZERO,), (0,), 3), ("rest", (HALF,), 1))
        self.assertEqual(stayers(made, (HALF,), (HALF,)), (0,))
        self.assertEqual(talk(Rule(1, ("fixed", ONE)), (HALF,), (ZERO,), (0,), 3), ("rest", (ZERO,), 0))

    def test_deep_rules(self):
        made = unchecked(2, deep_term(60))
        self.assertEqual(talk(made, (HALF, ONE), (ZERO, ZERO), (0, 1, 0), 20), naive_talk(made, (HALF, ONE), (ZERO, ZERO), (0, 1, 0), 20))


class TestErrors(unittest.TestCase):
    def test_no_wishes_comes_first(self):
        for wrong in spoiled(WISHES) + [WISHES[:2], WISHES * 2, ()]:
            self.assertRaises(NoWishes, move, MEAN3, wrong, None, None)
            self.assertRaises(NoWishes, stayers, MEAN3, wrong, None)
            self.assertRaises(NoWishes, talk, MEAN3, wrong, None, None, None)

    def test_then_no_bids(self):
        for wrong in spoiled(WISHES) + [WISHES[:2], WISHES * 2, ()]:
            self.assertRaises(NoBids, move, MEAN3, WISHES, wrong, None)
            self.assertRaises(NoBids, stayers, MEAN3, WISHES, wrong)
            self.assertRaises(NoBids, talk, MEAN3, WISHES, wrong, None, None)

    def test_then_no_person_or_no_order(self):
        for wrong in spoiled(1) + [3, -1, 10 ** 199]:
            self.assertRaises(NoPerson, move, MEAN3, WISHES, WISHES, wrong)
        for wrong in WRONG_SCHEDULES + spoiled((0, 1, 2)):
            self.assertRaises(NoOrder, talk, MEAN3, WISHES, WISHES, wrong, None)

    def test_then_no_many(self):
        for wrong in ODD + [-1, 2001, 10 ** 199, True, False, ZERO, "5"]:
            self.assertRaises(NoMany, talk, MEAN3, WISHES, WISHES, (0, 1, 2), wrong)
        for many in (0, 1, 1999, 2000):
            self.assertEqual(talk(MEAN3, WISHES, WISHES, (0, 1, 2), many), ("rest", WISHES, 0))


if __name__ == "__main__":
    unittest.main()
