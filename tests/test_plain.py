"""6.1 and 6.2: plain rules, and turns without foresight."""

import unittest
from fractions import Fraction

from cornerbids.errors import BadRule, NoBids, NoOrder, NoPerson, NotPlain, NoWishes
from cornerbids.outcomes import outcome
from cornerbids.plain import is_plain, is_quiet, run, turn, weights
from cornerbids.rules import Rule, value
from tests import naive
from tests.things import MEAN2, MEAN3, ODD, chance, number, numbers, rules, spoiled, unchecked

WISHES = ((0, 1), (1, 2), (1, 1))
ZERO, ONE = (0, 1), (1, 1)
LEAST = Rule(2, ("least", (("bid", 0), ("bid", 1))))
WRONG_ORDERS = [(), (0, 1), (0, 0, 1), (0, 1, 3), (0, 1, 2, -1), (0, True, 2), [0, 1, 2], (0, 1, 2) * 4 + (0,), 3, "012"]


def plain_term(rng, people, depth):
    if depth == 1 or rng.random() < 0.2:
        return ("bid", rng.randrange(people)) if rng.random() < 0.8 else ("fixed", number(rng))
    return ("mean", tuple((rng.randint(1, 9), plain_term(rng, people, depth - 1)) for _ in range(rng.randint(1, 4))))


def plain_rules(seed, many, people=None):
    rng = chance(seed)
    found = []
    while len(found) < many:
        so_many = people or rng.randint(1, 6)
        try:
            made = Rule(so_many, ("mean", tuple((rng.randint(1, 9), plain_term(rng, so_many, 3)) for _ in range(8))))
        except BadRule:
            continue
        if is_plain(made):
            found.append((rng, made))
    return found


def shares(term, whole, found):
    """The fractions of the persons in a dict, and that of fixed numbers under None."""
    if term[0] == "bid":
        found[term[1]] = found.get(term[1], 0) + whole
    elif term[0] == "fixed":
        found[None] = found.get(None, 0) + whole * Fraction(*term[1])
    else:
        total = sum(weight for weight, _ in term[1])
        for weight, inner in term[1]:
            shares(inner, whole * Fraction(weight, total), found)
    return found


def naive_turn(made, wishes, bids, person):
    share = shares(made.term, Fraction(1), {})[person]
    bid = Fraction(*bids[person]) + (Fraction(*wishes[person]) - naive.value(made, bids)) / share
    return (*bids[:person], naive.pair(min(max(bid, Fraction(0)), Fraction(1))), *bids[person + 1:])


def naive_run(made, wishes, bids, order):
    many = 0
    still = 0
    while still < len(order):
        for person in order:
            after = naive_turn(made, wishes, bids, person)
            still = still + 1 if after == bids else 0
            many += after != bids
            bids = after
    return (bids, many)


class TestIsPlain(unittest.TestCase):
    """6.1"""

    def test_ordinary_ones(self):
        bid, other = ("bid", 0), ("bid", 1)
        told = [
            (1, bid, True), (2, bid, False), (2, other, False), (1, ("fixed", (1, 2)), False), (2, ("fixed", (1, 2)), False),
            (2, ("mean", ((1, bid), (1, other))), True), (2, ("mean", ((1, bid), (1, bid))), False),
            (2, ("mean", ((1, bid), (1, ("mean", ((1, other), (3, ("fixed", (1, 2)))))))), True),
            (2, ("mean", ((1, bid), (1, ("least", (other,))))), False), (2, ("greatest", (bid, other)), False),
            (2, ("ranked", 1, (bid, other)), False), (1, ("between", ZERO, ONE, bid), False), (1, ("least", (bid,)), False),
            (2, ("mean", ((1, bid), (1, other), (1, bid), (9, ("fixed", ZERO)))), True), (1, ("mean", ((1, bid),)), True),
        ]
        for people, term, plain in told:
            self.assertIs(is_plain(Rule(people, term)), plain, term)

    def test_six_people(self):
        self.assertIs(is_plain(Rule(6, ("mean", tuple((1, ("bid", k)) for k in range(6))))), True)
        self.assertIs(is_plain(Rule(6, ("mean", tuple((1, ("bid", k)) for k in range(5))))), False)

    def test_rules_beyond_the_bounds(self):
        made = ("bid", 0)
        for _ in range(59):
            made = ("mean", ((1, made), (1, ("bid", 1))))
        deep = unchecked(2, made)
        self.assertIs(is_plain(deep), True)
        self.assertEqual(weights(deep), (((1, 2 ** 59), (2 ** 59 - 1, 2 ** 59)), ZERO))
        self.assertIs(is_plain(unchecked(2, ("mean", ((1, ("least", (made,))),)))), False)


class TestWeights(unittest.TestCase):
    """6.1"""

    def test_ordinary_ones(self):
        self.assertEqual(weights(MEAN3), (((1, 3),) * 3, ZERO))
        self.assertEqual(weights(Rule(1, ("bid", 0))), ((ONE,), ZERO))
        made = Rule(2, ("mean", ((2, ("bid", 1)), (1, ("fixed", (1, 2))), (3, ("mean", ((1, ("bid", 0)), (2, ("bid", 1))))))))
        self.assertEqual(weights(made), (((1, 6), (2, 3)), (1, 12)))

    def test_who_stands_twice_has_both_parts(self):
        made = Rule(2, ("mean", ((1, ("bid", 0)), (1, ("bid", 1)), (2, ("bid", 0)))))
        self.assertEqual(weights(made), (((3, 4), (1, 4)), ZERO))

    def test_by_chance(self):
        for rng, made in plain_rules(61, 60):
            found = shares(made.term, Fraction(1), {})
            told = (tuple(naive.pair(found[k]) for k in range(made.people)), naive.pair(found.get(None, 0)))
            self.assertEqual(weights(made), told)
            bids = numbers(rng, made.people)
            fractions, last = told
            number_told = sum(Fraction(*part) * Fraction(*bid) for part, bid in zip(fractions, bids)) + Fraction(*last)
            self.assertEqual(value(made, bids), naive.pair(number_told))

    def test_not_plain(self):
        for _, made in rules(62, 60):
            if not is_plain(made):
                self.assertRaises(NotPlain, weights, made)


class TestTurn(unittest.TestCase):
    """6.2"""

    def test_ordinary_ones(self):
        self.assertEqual(turn(MEAN3, WISHES, ((1, 2),) * 3, 1), ((1, 2),) * 3)
        self.assertEqual(turn(MEAN3, WISHES, ((1, 2), ZERO, (1, 2)), 1), ((1, 2),) * 3)
        self.assertEqual(turn(MEAN3, WISHES, ((1, 3), ZERO, ZERO), 0), (ZERO,) * 3)
        self.assertEqual(turn(MEAN3, WISHES, (ZERO, ZERO, (1, 3)), 2), (ZERO, ZERO, ONE))
        self.assertEqual(turn(MEAN3, ((1, 3),) * 3, (ZERO, ONE, ONE), 1), (ZERO, ZERO, ONE))
        self.assertEqual(turn(Rule(1, ("bid", 0)), ((3, 7),), (ONE,), 0), ((3, 7),))

    def test_by_chance(self):
        for rng, made in plain_rules(63, 100):
            wishes, bids = numbers(rng, made.people), numbers(rng, made.people)
            for person in range(made.people):
                self.assertEqual(turn(made, wishes, bids, person), naive_turn(made, wishes, bids, person))

    def test_errors_in_their_order(self):
        self.assertRaises(NotPlain, turn, LEAST, None, None, None)
        for wrong in spoiled(WISHES) + [WISHES[:2], ()]:
            self.assertRaises(NoWishes, turn, MEAN3, wrong, None, None)
            self.assertRaises(NoBids, turn, MEAN3, WISHES, wrong, None)
        for wrong in ODD + [3, True, -1]:
            self.assertRaises(NoPerson, turn, MEAN3, WISHES, WISHES, wrong)


class TestIsQuiet(unittest.TestCase):
    """6.2"""

    def test_ordinary_ones(self):
        self.assertIs(is_quiet(MEAN3, WISHES, WISHES), True)
        self.assertIs(is_quiet(MEAN3, WISHES, (ZERO, (1, 3), ONE)), False)
        self.assertIs(is_quiet(MEAN2, (ONE, ONE), (ONE, ONE)), True)
        self.assertIs(is_quiet(MEAN2, (ONE, ONE), (ONE, (99, 100))), False)
        self.assertIs(is_quiet(MEAN3, ((1, 2),) * 3, (ONE, (1, 2), ZERO)), True)

    def test_judges_any_object(self):
        for thing in spoiled(WISHES) + [WISHES[:2], WISHES + (ONE,), ()]:
            self.assertIs(is_quiet(MEAN3, WISHES, thing), False)

    def test_by_chance(self):
        seen = set()
        for rng, made in plain_rules(64, 60):
            for _ in range(8):
                wishes, bids = numbers(rng, made.people, 2), numbers(rng, made.people, 1)
                told = is_quiet(made, wishes, bids)
                self.assertIs(told, all(naive_turn(made, wishes, bids, k) == bids for k in range(made.people)))
                seen.add(told)
        self.assertEqual(seen, {True, False})

    def test_errors_in_their_order(self):
        self.assertRaises(NotPlain, is_quiet, LEAST, None, None)
        for wrong in spoiled(WISHES):
            self.assertRaises(NoWishes, is_quiet, MEAN3, wrong, None)


class TestRun(unittest.TestCase):
    """6.2, and the fifth fact"""

    def test_ordinary_ones(self):
        self.assertEqual(run(MEAN3, WISHES, WISHES, (0, 1, 2)), (WISHES, 0))
        self.assertEqual(run(MEAN3, WISHES, (ZERO,) * 3, (0, 1, 2)), ((ZERO, (1, 2), ONE), 3))
        self.assertEqual(run(Rule(1, ("bid", 0)), ((3, 7),), (ZERO,), (0,)), (((3, 7),), 1))
        self.assertEqual(run(Rule(1, ("bid", 0)), ((3, 7),), (ZERO,), (0,) * 12), (((3, 7),), 1))

    def test_equal_wishes(self):
        self.assertEqual(run(MEAN2, ((1, 2), (1, 2)), (ZERO, ZERO), (0, 1)), ((ONE, ZERO), 1))
        self.assertEqual(run(MEAN2, ((1, 2), (1, 2)), (ZERO, ZERO), (1, 0)), ((ZERO, ONE), 1))

    def test_by_chance(self):
        for rng, made in plain_rules(65, 150):
            fine = rng.choice((2, 6, 40))
            wishes, bids = numbers(rng, made.people, fine), numbers(rng, made.people, fine)
            order = list(range(made.people)) + [rng.randrange(made.people) for _ in range(rng.randint(0, 12 - made.people))]
            rng.shuffle(order)
            told = run(made, wishes, bids, tuple(order))
            self.assertEqual(told, naive_run(made, wishes, bids, order))
            self.assertIs(is_quiet(made, wishes, told[0]), True)
            self.assertEqual(value(made, told[0]), outcome(made, wishes))

    def test_wishes_close_together(self):
        longest = 0
        for rng, made in plain_rules(66, 40):
            low = rng.randint(0, 294)
            wishes = tuple(naive.pair(Fraction(low + rng.randint(0, 6), 300)) for _ in range(made.people))
            bids = numbers(rng, made.people, 2)
            order = tuple(range(made.people)) + tuple(rng.randrange(made.people) for _ in range(12 - made.people))
            told = run(made, wishes, bids, order)
            self.assertEqual(told, naive_run(made, wishes, bids, order))
            longest = max(longest, told[1])
        self.assertGreater(longest, 100)

    def test_far_more_turns_than_can_be_gone_through_one_by_one(self):
        tiny = 10 ** 150
        wishes = ((1, 2), naive.pair(Fraction(1, 2) + Fraction(1, tiny)))
        bids, many = run(MEAN2, wishes, ((1, 2), (1, 2)), (0, 1))
        # Each turn goes 2 / tiny on, the first one to speak has nothing to do; both come to an end at once.
        self.assertEqual(bids, (ZERO, ONE))
        self.assertEqual(many, tiny // 2)
        again = ((1, 2), naive.pair(Fraction(1, 2) + Fraction(1, 1000)))
        self.assertEqual(run(MEAN2, again, ((1, 2), (1, 2)), (0, 1)), naive_run(MEAN2, again, ((1, 2), (1, 2)), (0, 1)))
        self.assertEqual(run(MEAN2, again, ((1, 2), (1, 2)), (0, 1))[1], 500)

    def test_rounds_that_begin_and_end_alike_but_do_not_go_on_so(self):
        # Person 0 cannot go below 0 at first, comes up at the end of the round, and so can go down in the next one.
        wishes, bids, order = ((1, 2), (49, 100), (51, 100)), ((0, 1), (1, 1), (53, 100)), (0, 1, 0, 2)
        self.assertEqual(value(MEAN3, bids), wishes[2])
        self.assertEqual(run(MEAN3, wishes, bids, order), naive_run(MEAN3, wishes, bids, order))
        turned = [tuple((bottom - top, bottom) for top, bottom in row) for row in (wishes, bids)]
        self.assertEqual(run(MEAN3, *turned, order), naive_run(MEAN3, *turned, order))

    def test_errors_in_their_order(self):
        self.assertRaises(NotPlain, run, LEAST, None, None, None)
        for wrong in spoiled(WISHES) + [WISHES[:2], ()]:
            self.assertRaises(NoWishes, run, MEAN3, wrong, None, None)
            self.assertRaises(NoBids, run, MEAN3, WISHES, wrong, None)
        for wrong in WRONG_ORDERS + spoiled((0, 1, 2)):
            self.assertRaises(NoOrder, run, MEAN3, WISHES, WISHES, wrong)


if __name__ == "__main__":
    unittest.main()
