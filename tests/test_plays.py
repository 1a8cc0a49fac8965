"""4.1 to 4.4: plays of a schedule."""

import unittest
from fractions import Fraction

from cornerbids.errors import BadPlan, BidError, NoPerson, NoPlay, NoSchedule, NoTurn, NoWishes
from cornerbids.outcomes import outcome
from cornerbids.plays import best_bids, best_play, bids_behind, foreseen, is_best, led
from cornerbids.rules import Rule, value
from tests import naive
from tests.things import MEAN2, MEAN3, ODD, numbers, rules, spoiled

WISHES = ((0, 1), (1, 2), (1, 1))
ONCE = (0, 1, 2)
AGAIN = (0, 2, 0, 1)
ZERO, ONE = (0, 1), (1, 1)
WRONG_SCHEDULES = [(), (0, 1), (0, 1, 1), (0, 1, 3), (0, 1, 2, 3), (-1, 0, 1, 2), (0, True, 2), [0, 1, 2], "012", 3,
                   (0, 1, 2) * 4 + (0,), (0, 1, 2) * 5, {0: 1}]


def schedule_of(rng, people, most=12):
    turns = list(range(people)) + [rng.randrange(people) for _ in range(rng.randint(0, most - people))]
    rng.shuffle(turns)
    return tuple(turns)


def wrong_wishes():
    return spoiled(WISHES) + [WISHES[:2], WISHES * 2, ()]


def naive_foreseen(made, wishes, schedule, play):
    bids = [ZERO] * made.people
    for person, bid in zip(schedule, play):
        bids[person] = bid
    return naive.behind(made, wishes, bids, tuple(sorted(set(schedule[len(play):]))))


def distance(made, wishes, schedule, play):
    """How far what is foreseen is from the wish of the last speaker of a play."""
    return abs(naive_foreseen(made, wishes, schedule, play) - Fraction(*wishes[schedule[len(play) - 1]]))


class TestBidsBehind(unittest.TestCase):
    """4.1"""

    def test_empty_and_whole_plays(self):
        self.assertEqual(bids_behind(MEAN3, ONCE, ()), (ZERO,) * 3)
        self.assertEqual(bids_behind(MEAN3, ONCE, ((1, 2),)), ((1, 2), ZERO, ZERO))
        self.assertEqual(bids_behind(MEAN3, (2, 0, 1), ((1, 2), ONE, (1, 3))), (ONE, (1, 3), (1, 2)))

    def test_a_later_bid_goes_in_the_place_of_an_elder_one(self):
        self.assertEqual(bids_behind(MEAN3, AGAIN, ((1, 2), (1, 3), (1, 4))), ((1, 4), ZERO, (1, 3)))

    def test_schedules_of_one_and_twelve_turns(self):
        self.assertEqual(bids_behind(Rule(1, ("bid", 0)), (0,), ((2, 3),)), ((2, 3),))
        self.assertEqual(bids_behind(MEAN3, ONCE * 4, (ONE,) * 10 + (ZERO, (1, 2))), (ONE, ZERO, (1, 2)))

    def test_errors_in_their_order(self):
        for wrong in WRONG_SCHEDULES + spoiled(ONCE):
            self.assertRaises(NoSchedule, bids_behind, MEAN3, wrong, None)
        for wrong in spoiled(((1, 2), (1, 3))) + [[(1, 2)], ((1, 2),) * 4, ((2, 4),), (1, 2), None]:
            self.assertRaises(NoPlay, bids_behind, MEAN3, ONCE, wrong)
        self.assertRaises(NoPlay, bids_behind, MEAN3, AGAIN, (ONE,) * 5)


class TestForeseen(unittest.TestCase):
    """4.2, of foreseen"""

    def test_ahead_of_all_it_is_the_outcome_behind_all_what_the_rule_tells(self):
        self.assertEqual(foreseen(MEAN3, WISHES, ONCE, ()), outcome(MEAN3, WISHES))
        self.assertEqual(foreseen(MEAN3, WISHES, ONCE, (ONE, ONE, (1, 2))), (5, 6))

    def test_who_comes_again_is_still_to_bid(self):
        self.assertEqual(foreseen(MEAN3, WISHES, AGAIN, (ONE,)), (1, 2))
        self.assertEqual(foreseen(MEAN3, WISHES, AGAIN, (ONE, ONE)), (1, 2))
        self.assertEqual(foreseen(MEAN3, WISHES, AGAIN, (ONE, ONE, ONE)), (2, 3))

    def test_by_chance(self):
        for rng, made in rules(41, 80):
            schedule = schedule_of(rng, made.people)
            wishes, play = numbers(rng, made.people), numbers(rng, rng.randint(0, len(schedule)))
            told = naive.pair(naive_foreseen(made, wishes, schedule, play))
            self.assertEqual(foreseen(made, wishes, schedule, play), told)

    def test_errors_in_their_order(self):
        for function in (foreseen, best_bids):
            for wrong in wrong_wishes():
                self.assertRaises(NoWishes, function, MEAN3, wrong, None, None)
            for wrong in WRONG_SCHEDULES + spoiled(ONCE):
                self.assertRaises(NoSchedule, function, MEAN3, WISHES, wrong, None)
            for wrong in spoiled(((1, 2), (1, 3))) + [(ONE,) * 4]:
                self.assertRaises(NoPlay, function, MEAN3, WISHES, ONCE, wrong)


class TestBestBids(unittest.TestCase):
    """4.2, of best_bids"""

    def test_ordinary_ones(self):
        self.assertEqual(best_bids(MEAN3, WISHES, ONCE, ()), (ZERO, (1, 2)))
        self.assertEqual(best_bids(MEAN3, WISHES, ONCE, (ZERO,)), ((1, 2), (1, 2)))
        self.assertEqual(best_bids(MEAN3, WISHES, ONCE, (ZERO, (1, 2))), (ONE, ONE))
        self.assertEqual(best_bids(MEAN2, ((1, 2), (1, 2)), (1, 0), ((1, 4),)), ((3, 4), (3, 4)))

    def test_of_a_speaker_with_a_later_turn_all_are_best(self):
        self.assertEqual(best_bids(MEAN3, WISHES, AGAIN, ()), (ZERO, ONE))
        self.assertEqual(best_bids(MEAN3, WISHES, AGAIN, (ONE, ONE)), (ZERO, (1, 2)))

    def test_by_chance(self):
        grid = [naive.pair(Fraction(at, 12)) for at in range(13)]
        for rng, made in rules(42, 70):
            schedule = schedule_of(rng, made.people, 8)
            wishes, play = numbers(rng, made.people), numbers(rng, rng.randint(0, len(schedule) - 1))
            low, high = best_bids(made, wishes, schedule, play)
            found = {bid: distance(made, wishes, schedule, (*play, bid)) for bid in grid + [low, high]}
            self.assertEqual([found[low], found[high]], [min(found.values())] * 2)
            for bid, far in found.items():
                self.assertEqual(far == found[low], Fraction(*low) <= Fraction(*bid) <= Fraction(*high))
            tiny = Fraction(1, 10 ** 6)
            for bid in (Fraction(*low) - tiny, Fraction(*high) + tiny):
                if 0 <= bid <= 1:
                    self.assertGreater(distance(made, wishes, schedule, (*play, naive.pair(bid))), found[low])

    def test_no_turn_of_a_whole_play(self):
        for play in ((ZERO,) * 3, (ONE,) * 3):
            self.assertRaises(NoTurn, best_bids, MEAN3, WISHES, ONCE, play)
        self.assertRaises(NoWishes, best_bids, MEAN3, None, ONCE, (ZERO,) * 3)
        self.assertRaises(NoPlay, best_bids, MEAN3, WISHES, ONCE, (ZERO,) * 4)


class TestBestPlay(unittest.TestCase):
    """4.3, of best_play, and the second fact"""

    def test_second_fact_by_chance(self):
        for rng, made in rules(43, 60):
            schedule = schedule_of(rng, made.people)
            wishes = numbers(rng, made.people)
            play = best_play(made, wishes, schedule)
            self.assertEqual(len(play), len(schedule))
            self.assertIs(is_best(made, wishes, schedule, play), True)
            self.assertEqual(value(made, bids_behind(made, schedule, play)), outcome(made, wishes))

    def test_one_turn_and_twelve(self):
        self.assertEqual(best_play(Rule(1, ("bid", 0)), ((2, 7),), (0,)), ((2, 7),))
        rng, made = rules(44, 1, people=6, depth=4)[0]
        wishes = numbers(rng, 6)
        schedule = tuple(range(6)) * 2
        told = value(made, bids_behind(made, schedule, best_play(made, wishes, schedule)))
        self.assertEqual(told, outcome(made, wishes))

    def test_errors_in_their_order(self):
        for wrong in wrong_wishes():
            self.assertRaises(NoWishes, best_play, MEAN3, wrong, None)
            self.assertRaises(NoWishes, is_best, MEAN3, wrong, None, None)
        for wrong in WRONG_SCHEDULES + spoiled(ONCE):
            self.assertRaises(NoSchedule, best_play, MEAN3, WISHES, wrong)
            self.assertRaises(NoSchedule, is_best, MEAN3, WISHES, wrong, None)


class TestIsBest(unittest.TestCase):
    """4.3, of is_best"""

    def test_ordinary_ones(self):
        self.assertIs(is_best(MEAN3, WISHES, ONCE, (ZERO, (1, 2), ONE)), True)
        self.assertIs(is_best(MEAN3, WISHES, ONCE, ((1, 2), (0, 1), ONE)), True)
        self.assertIs(is_best(MEAN3, WISHES, ONCE, ((1, 2), (1, 2), ONE)), False)
        self.assertIs(is_best(MEAN3, WISHES, ONCE, ((2, 3), (0, 1), ONE)), False)
        self.assertIs(is_best(MEAN3, WISHES, ONCE, (ZERO, (1, 2), (999, 1000))), False)

    def test_a_play_that_is_not_whole_is_not_best(self):
        for play in ((), (ZERO,), (ZERO, (1, 2)), (ZERO, (1, 2), ONE, ONE)):
            self.assertIs(is_best(MEAN3, WISHES, ONCE, play), False)

    def test_judges_any_object(self):
        for thing in spoiled((ZERO, (1, 2), ONE)):
            self.assertIs(is_best(MEAN3, WISHES, ONCE, thing), False)
        for thing in ODD:
            self.assertIs(is_best(MEAN3, WISHES, AGAIN, thing), False)

    def test_what_is_bid_by_those_who_come_again_means_nothing(self):
        for bid in (ZERO, (3, 7), ONE):
            self.assertIs(is_best(MEAN3, WISHES, AGAIN, (bid, ONE, ZERO, (1, 2))), True)
        self.assertIs(is_best(MEAN3, WISHES, AGAIN, (ZERO, ONE, ONE, (1, 2))), False)

    def test_by_chance(self):
        seen = set()
        for rng, made in rules(45, 150, people=2):
            schedule = schedule_of(rng, 2, 3)
            wishes, play = numbers(rng, 2, 2), numbers(rng, len(schedule), 2)
            right = True
            for at in range(len(play)):
                # All places at which a line of such a rule can bend, and all between them, are near one of these.
                bids = [naive.pair(Fraction(k, 24)) for k in range(25)]
                least = min(distance(made, wishes, schedule, (*play[:at], bid)) for bid in bids)
                right = right and distance(made, wishes, schedule, play[:at + 1]) <= least
            told = is_best(made, wishes, schedule, play)
            if told:
                self.assertTrue(right)
            elif right:
                # The grid may miss the very best bid, never by more than its width.
                low, high = zip(*[best_bids(made, wishes, schedule, play[:at]) for at in range(len(play))])
                self.assertTrue(any(Fraction(*bid) < Fraction(*a) or Fraction(*bid) > Fraction(*b)
                                    for bid, a, b in zip(play, low, high)))
            seen.add(told)
        self.assertEqual(seen, {True, False})


class TestLed(unittest.TestCase):
    """4.4"""

    def test_the_person_bids_by_the_plan_the_others_their_least_best_bid(self):
        seen = []

        def plan(play):
            seen.append(play)
            return (1, 3)

        self.assertEqual(led(MEAN3, WISHES, ONCE, 1, plan), (ZERO, (1, 3), ONE))
        self.assertEqual(seen, [(ZERO,)])
        del seen[:]
        self.assertEqual(led(MEAN3, WISHES, AGAIN, 0, plan), ((1, 3), (1, 2), (1, 3), (2, 3)))
        self.assertEqual(seen, [(), ((1, 3), (1, 2))])
        self.assertTrue(all(type(play) is tuple for play in seen))

    def test_a_plan_of_least_best_bids_is_the_best_play(self):
        for rng, made in rules(46, 20):
            schedule = schedule_of(rng, made.people, 8)
            wishes = numbers(rng, made.people)
            person = rng.randrange(made.people)
            play = led(made, wishes, schedule, person, lambda ahead: best_bids(made, wishes, schedule, ahead)[0])
            self.assertIs(is_best(made, wishes, schedule, play), True)

    def test_third_fact_by_chance(self):
        for rng, made in rules(47, 60):
            schedule = schedule_of(rng, made.people, 9)
            wishes = numbers(rng, made.people)
            person = rng.randrange(made.people)
            plans = numbers(rng, len(schedule))
            play = led(made, wishes, schedule, person, lambda ahead: plans[len(ahead)])
            for at, speaker in enumerate(schedule):
                if speaker == person:
                    self.assertEqual(play[at], plans[at])
                else:
                    self.assertEqual(play[at], best_bids(made, wishes, schedule, play[:at])[0])
            told = Fraction(*value(made, bids_behind(made, schedule, play)))
            wish = Fraction(*wishes[person])
            self.assertGreaterEqual(abs(told - wish), abs(Fraction(*outcome(made, wishes)) - wish))

    def test_bad_plan_with_the_first_turn(self):
        for thing in spoiled((1, 2)):
            for schedule, person, at in ((ONCE, 0, 0), (ONCE, 2, 2), (AGAIN, 0, 0), (AGAIN, 1, 3)):
                with self.assertRaises(BadPlan) as caught:
                    led(MEAN3, WISHES, schedule, person, lambda play: thing)
                self.assertEqual(caught.exception.turn, at)
        with self.assertRaises(BadPlan) as caught:
            led(MEAN3, WISHES, AGAIN, 0, lambda play: (2, 4) if len(play) == 2 else ONE)
        self.assertEqual(caught.exception.turn, 2)

    def test_errors_of_the_plan_go_on(self):
        for error in (KeyError("x"), ValueError("x"), BidError("x"), NoTurn(), RuntimeError(), StopIteration()):
            def plan(play):
                raise error
            with self.assertRaises(type(error)) as caught:
                led(MEAN3, WISHES, ONCE, 1, plan)
            self.assertIs(caught.exception, error)

    def test_errors_in_their_order(self):
        def plan(play):
            raise AssertionError("must not be asked")

        for wrong in wrong_wishes():
            self.assertRaises(NoWishes, led, MEAN3, wrong, None, None, plan)
        for wrong in WRONG_SCHEDULES + spoiled(ONCE):
            self.assertRaises(NoSchedule, led, MEAN3, WISHES, wrong, None, plan)
        for wrong in ODD + [3, True, -1]:
            self.assertRaises(NoPerson, led, MEAN3, WISHES, ONCE, wrong, plan)


class TestOneRuleManyPlays(unittest.TestCase):
    def test_equal_calls_give_equal_answers(self):
        for rng, made in rules(48, 10):
            schedule = schedule_of(rng, made.people)
            wishes = numbers(rng, made.people)
            self.assertEqual(best_play(made, wishes, schedule), best_play(made, wishes, schedule))


if __name__ == "__main__":
    unittest.main()
