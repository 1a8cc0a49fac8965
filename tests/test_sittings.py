"""13.1: a sitting."""

import unittest

from cornerbids.errors import BidError, NoNumber, NoSchedule, NoTurn, NoWishes
from cornerbids.outcomes import outcome
from cornerbids.plays import best_bids, bids_behind, foreseen, is_best
from cornerbids.rules import Rule, value
from cornerbids.sittings import Sitting
from tests.things import MEAN2, MEAN3, ODD, deep_term, number, numbers, rules, spoiled, unchecked
from tests.test_plays import WRONG_SCHEDULES, schedule_of

WISHES = ((0, 1), (1, 2), (1, 1))
ONCE = (0, 1, 2)
AGAIN = (0, 2, 0, 1)
ZERO, HALF, ONE = (0, 1), (1, 2), (1, 1)


def state(sitting):
    best = sitting.best() if sitting.speaker() is not None else None
    return (sitting.speaker(), sitting.play(), sitting.bids(), sitting.foreseen(), best, sitting.told())


def state_of(made, wishes, schedule, play):
    """What a sitting tells behind a play."""
    speaker = schedule[len(play)] if len(play) < len(schedule) else None
    best = best_bids(made, wishes, schedule, play) if speaker is not None else None
    bids = bids_behind(made, schedule, play)
    return (speaker, play, bids, foreseen(made, wishes, schedule, play), best, value(made, bids))


def sitting_behind(play, schedule=ONCE):
    sitting = Sitting(MEAN3, WISHES, schedule)
    for bid in play:
        sitting.bid(bid)
    return sitting


class TestSitting(unittest.TestCase):
    def test_an_empty_play(self):
        sitting = Sitting(MEAN3, WISHES, AGAIN)
        self.assertEqual(sitting.speaker(), 0)
        self.assertEqual(sitting.play(), ())
        self.assertEqual(sitting.bids(), (ZERO,) * 3)
        self.assertEqual(sitting.foreseen(), outcome(MEAN3, WISHES))
        self.assertEqual(sitting.best(), (ZERO, ONE))
        self.assertEqual(sitting.told(), ZERO)

    def test_a_play_led_to_its_end(self):
        sitting = Sitting(MEAN3, WISHES, AGAIN)
        seen = []
        for bid in ((1, 3), ONE, ZERO, HALF):
            seen.append(sitting.speaker())
            self.assertIsNone(sitting.bid(bid))
        self.assertEqual(tuple(seen), AGAIN)
        self.assertIsNone(sitting.speaker())
        self.assertEqual(sitting.play(), ((1, 3), ONE, ZERO, HALF))
        self.assertEqual(sitting.bids(), (ZERO, HALF, ONE))
        self.assertEqual(sitting.told(), HALF)
        self.assertEqual(sitting.foreseen(), HALF)

    def test_by_chance(self):
        for rng, made in rules(171, 40):
            schedule = schedule_of(rng, made.people, 9)
            wishes = numbers(rng, made.people)
            sitting = Sitting(made, wishes, schedule)
            play = ()
            for _ in range(12):
                self.assertEqual(state(sitting), state_of(made, wishes, schedule, play))
                if play and (len(play) == len(schedule) or rng.random() < 0.3):
                    many = rng.randint(1, len(play))
                    self.assertIsNone(sitting.back(many))
                    play = play[:len(play) - many]
                else:
                    play = (*play, number(rng))
                    sitting.bid(play[-1])

    def test_best_bids_lead_to_the_outcome(self):
        for rng, made in rules(172, 30):
            schedule = schedule_of(rng, made.people, 9)
            wishes = numbers(rng, made.people)
            sitting = Sitting(made, wishes, schedule)
            while sitting.speaker() is not None:
                sitting.bid(rng.choice(sitting.best()))
                self.assertEqual(sitting.foreseen(), outcome(made, wishes))
            self.assertEqual(sitting.told(), outcome(made, wishes))
            self.assertIs(is_best(made, wishes, schedule, sitting.play()), True)

    def test_sittings_are_apart(self):
        one, other = sitting_behind(()), sitting_behind(())
        one.bid(HALF)
        self.assertEqual(other.play(), ())
        self.assertFalse(one == other)
        for thing in (MEAN3, None, (), "sitting", ONCE):
            self.assertFalse(one == thing)

    def test_deep_rules(self):
        made = unchecked(2, deep_term(60))
        sitting = Sitting(made, (HALF, ONE), (0, 1))
        sitting.bid(sitting.best()[0])
        sitting.bid(sitting.best()[0])
        self.assertEqual(sitting.told(), outcome(made, (HALF, ONE)))


class TestErrors(unittest.TestCase):
    def test_of_making_one(self):
        for wrong in spoiled(WISHES) + [WISHES[:2], WISHES * 2, ()]:
            self.assertRaises(NoWishes, Sitting, MEAN3, wrong, None)
        for wrong in WRONG_SCHEDULES + spoiled(ONCE):
            self.assertRaises(NoSchedule, Sitting, MEAN3, WISHES, wrong)

    def test_no_turn_comes_ahead_of_no_number(self):
        sitting = sitting_behind((ZERO, HALF, ONE))
        before = state(sitting)
        for thing in ODD + [ZERO, ONE]:
            self.assertRaises(NoTurn, sitting.bid, thing)
        self.assertRaises(NoTurn, sitting.best)
        self.assertEqual(state(sitting), before)

    def test_no_number_to_bid_changes_nothing(self):
        for play in ((), (HALF,), (HALF, ONE)):
            sitting = sitting_behind(play)
            before = state(sitting)
            for wrong in spoiled(HALF) + [(2, 4), (3, 2), 0, 1]:
                self.assertRaises(NoNumber, sitting.bid, wrong)
            self.assertEqual(state(sitting), before)

    def test_no_number_to_take_back_changes_nothing(self):
        for play in ((), (HALF,), (ZERO, HALF, ONE)):
            sitting = sitting_behind(play)
            before = state(sitting)
            for wrong in ODD + [0, -1, True, len(play) + 1, 10 ** 199, (1, 1), "1", (1,)]:
                self.assertRaises(NoNumber, sitting.back, wrong)
            self.assertEqual(state(sitting), before)


class TestBack(unittest.TestCase):
    def test_some_and_all(self):
        for many in (1, 2, 3, 4):
            sitting = sitting_behind((HALF, ONE, ZERO, HALF), AGAIN)
            self.assertIsNone(sitting.back(many))
            self.assertEqual(sitting.play(), (HALF, ONE, ZERO, HALF)[:4 - many])
            self.assertEqual(sitting.speaker(), AGAIN[4 - many])

    def test_what_was_taken_back_is_gone(self):
        sitting = sitting_behind((HALF, ONE, ZERO))
        sitting.back(3)
        self.assertEqual(state(sitting), state(sitting_behind(())))
        self.assertRaises(NoNumber, sitting.back, 1)
        sitting.bid(ONE)
        self.assertEqual(sitting.play(), (ONE,))

    def test_an_elder_bid_stands_again(self):
        sitting = sitting_behind((HALF, ONE, ZERO), AGAIN)
        sitting.back(1)
        self.assertEqual(sitting.bids(), (HALF, ZERO, ONE))


class TestCopy(unittest.TestCase):
    def test_goes_on_apart(self):
        sitting = sitting_behind((HALF, ONE))
        other = sitting.copy()
        self.assertIs(type(other), Sitting)
        self.assertEqual(state(other), state(sitting))
        other.bid(ZERO)
        self.assertEqual(sitting.play(), (HALF, ONE))
        sitting.back(2)
        self.assertEqual(other.play(), (HALF, ONE, ZERO))
        sitting.bid(ONE)
        self.assertEqual(other.play(), (HALF, ONE, ZERO))

    def test_can_go_back_likewise(self):
        other = sitting_behind((HALF, ONE)).copy()
        self.assertRaises(NoNumber, other.back, 3)
        other.back(2)
        self.assertEqual(state(other), state(sitting_behind(())))

    def test_of_empty_and_whole_plays_and_of_copies(self):
        for play in ((), (HALF, ONE, ZERO)):
            other = sitting_behind(play).copy().copy()
            self.assertEqual(state(other), state(sitting_behind(play)))


class TestTrying(unittest.TestCase):
    def test_returns_what_the_action_returned_and_puts_all_back(self):
        sitting = sitting_behind((HALF,))
        before = state(sitting)
        asked = []

        def action(given):
            asked.append(given)
            given.bid(ONE)
            given.bid(ONE)
            return [given.told()]

        self.assertEqual(sitting.trying(action), [(5, 6)])
        self.assertIs(asked[0], sitting)
        self.assertEqual(len(asked), 1)
        self.assertEqual(state(sitting), before)
        self.assertIsNone(sitting.trying(lambda given: given.bid(ONE)))

    def test_also_if_the_action_took_more_back_than_it_did(self):
        sitting = sitting_behind((HALF, ONE))
        before = state(sitting)

        def action(given):
            given.bid(ZERO)
            given.back(3)
            given.bid((1, 7))
            return given.play()

        self.assertEqual(sitting.trying(action), ((1, 7),))
        self.assertEqual(state(sitting), before)
        sitting.back(2)
        self.assertEqual(sitting.play(), ())

    def test_also_if_an_error_is_raised_which_goes_on(self):
        for error in (KeyError("x"), BidError(), NoTurn(), RuntimeError("x"), StopIteration(), KeyboardInterrupt()):
            sitting = sitting_behind((HALF,))
            before = state(sitting)

            def action(given):
                given.back(1)
                given.bid(ONE)
                given.bid(ONE)
                raise error
            with self.assertRaises(type(error)) as caught:
                sitting.trying(action)
            self.assertIs(caught.exception, error)
            self.assertEqual(state(sitting), before)

    def test_its_own_errors_within(self):
        sitting = sitting_behind((HALF, ONE, ZERO))
        self.assertRaises(NoTurn, sitting.trying, lambda given: given.bid(ONE))
        self.assertRaises(NoNumber, sitting.trying, lambda given: given.back(4))
        self.assertEqual(sitting.play(), (HALF, ONE, ZERO))

    def test_one_within_another(self):
        sitting = sitting_behind((HALF,))

        def inner(given):
            given.back(2)
            return given.play()

        def action(given):
            given.bid(ONE)
            told = given.trying(inner)
            return (told, given.play())

        self.assertEqual(sitting.trying(action), ((), (HALF, ONE)))
        self.assertEqual(sitting.play(), (HALF,))

    def test_copies_made_within_stand(self):
        sitting = sitting_behind((HALF,))

        def action(given):
            given.bid(ONE)
            return given.copy()

        other = sitting.trying(action)
        self.assertEqual(other.play(), (HALF, ONE))
        self.assertEqual(sitting.play(), (HALF,))


class TestRulesOfOneAndTwo(unittest.TestCase):
    def test_one_turn_and_twelve(self):
        sitting = Sitting(Rule(1, ("bid", 0)), ((2, 7),), (0,))
        self.assertEqual(sitting.best(), ((2, 7), (2, 7)))
        sitting.bid((2, 7))
        self.assertIsNone(sitting.speaker())
        sitting = Sitting(MEAN2, (ZERO, ONE), (0, 1) * 6)
        for _ in range(12):
            sitting.bid(sitting.best()[1])
        self.assertRaises(NoTurn, sitting.bid, ZERO)
        self.assertEqual(sitting.told(), HALF)


if __name__ == "__main__":
    unittest.main()
