"""Part 0: what holds of all functions."""

import copy
import sys
import unittest

from cornerbids.changes import (all_gain, beaten_by, best_number, duels, fairest_rule, gainers, is_all_gain, nearest_rule, outcomes,
                                unbeaten)
from cornerbids.chances import chances, likely_at_least, likely_own, mean_outcome
from cornerbids.comparing import alike, cousin, never_less, parting
from cornerbids.corners import corner, corners
from cornerbids.desks import Desk
from cornerbids.drawing import drawing, is_drawing, most_drawn
from cornerbids.errors import BidError
from cornerbids.groups import composed, groups_first, groups_parting
from cornerbids.holders import alone, least_blocks, least_lots, levels, swings, vetoes
from cornerbids.honest import best_for, honest_at, is_lie, lie
from cornerbids.houses import House, frozen, merged, split, widened
from cornerbids.lines import bids_for, foreseen_line, line, told_at
from cornerbids.logs import fits, fitting, many_places, may_stand, places
from cornerbids.outcomes import holding, is_outcome, outcome, outcome_behind, pressing, sides
from cornerbids.plain import is_plain, is_quiet, run, turn, weights
from cornerbids.plays import best_bids, best_play, bids_behind, foreseen, is_best, led
from cornerbids.quotas import is_scale, is_trade, scale, trade
from cornerbids.ranges import range_of, wish_bounds, wishes_with
from cornerbids.reading import read_rule
from cornerbids.rests import is_rest, is_single_rest, movers, moving_lots, rest
from cornerbids.rules import Rule, mirrored, renamed, value
from cornerbids.sittings import Sitting
from cornerbids.stretches import around, is_rest_within, outcome_within, rest_within
from cornerbids.tables import (bar_to_counts, bar_to_weights, by_counts, idle, is_bar_to_counts, is_bar_to_weights, is_table,
                               rule_of, weights_of)
from cornerbids.talks import move, stayers, talk
from cornerbids.texts import rule_text
from cornerbids.tidy import depth, size, tidied, words_of
from tests.things import MEAN2, ODD, deep_term, unchecked

WISHES = ((1, 3), (2, 3))
BIDS = ((0, 1), (1, 1))
BENT = (((0, 1), (0, 1)), ((1, 2), (1, 2)), ((1, 1), (1, 2)))
STRETCHES = (((1, 4), (1, 2)), ((0, 1), (1, 1)))
TABLE = {(): (0, 1), (0,): (1, 3), (1,): (1, 2), (0, 1): (1, 1)}
CHOICES = (((0, 1), (1, 2)), ((1, 1), (1, 1), (1, 3)))
ROW = [MEAN2, Rule(2, ("bid", 0)), Rule(2, ("fixed", (1, 2)))]
LOG = ((MEAN2, (1, 2)), (Rule(2, ("bid", 0)), (1, 3)))


def plan(play):
    return (1, 2)


# Each function with right arguments behind the rule, of a rule of two people.
CALLS = [
    (value, (BIDS,)), (renamed, ((1, 0),)), (mirrored, ()), (corner, ((0,),)), (corners, ()), (outcome, (WISHES,)),
    (is_outcome, (WISHES, (1, 2))), (sides, (WISHES,)), (holding, (WISHES,)), (pressing, (WISHES,)),
    (outcome_behind, (WISHES, BIDS, (1,))), (line, (BIDS, 0)), (foreseen_line, (WISHES, BIDS, 0, (1,))),
    (bids_behind, ((0, 1), ((1, 2),))), (foreseen, (WISHES, (0, 1), ((1, 2),))), (best_bids, (WISHES, (0, 1), ((1, 2),))),
    (best_play, (WISHES, (0, 1, 0))), (is_best, (WISHES, (0, 1), BIDS)), (led, (WISHES, (0, 1), 0, plan)),
    (is_rest, (WISHES, BIDS)), (is_single_rest, (WISHES, BIDS)), (rest, (WISHES,)), (movers, (WISHES, BIDS)),
    (moving_lots, (WISHES, BIDS)), (is_plain, ()), (is_quiet, (WISHES, BIDS)), (weights, ()), (run, (WISHES, BIDS, (0, 1))),
    (turn, (WISHES, BIDS, 0)), (most_drawn, ()), (drawing, ()), (is_drawing, (BIDS,)),
    (cousin, ()), (best_for, (BIDS, 0, (1, 2))), (honest_at, (BIDS, 0)), (lie, (BIDS, 0)), (is_lie, (BIDS, 0, ((1, 2), (0, 1)))),
    (outcome_within, (WISHES, STRETCHES)), (rest_within, (WISHES, STRETCHES)), (is_rest_within, (WISHES, STRETCHES, BIDS)),
    (range_of, (STRETCHES,)), (wishes_with, (STRETCHES, (1, 2))), (wish_bounds, (0, (1, 2))), (rule_text, ()),
    (chances, (CHOICES,)), (mean_outcome, (CHOICES,)), (likely_own, (CHOICES, 0)), (likely_at_least, (CHOICES, (1, 2))),
    (least_lots, ((1, 2),)), (least_blocks, ((1, 2),)), (vetoes, ((1, 2),)), (swings, ((1, 2),)), (alone, ((1, 2),)), (levels, ()),
    (move, (WISHES, BIDS, 0)), (stayers, (WISHES, BIDS)), (talk, (WISHES, BIDS, (1, 0), 9)), (tidied, ()), (size, ()), (depth, ()),
    (words_of, ()), (scale, ((1, 2),)), (trade, ((1, 2),)), (is_scale, ((1, 2), ((1, 1), 1))), (is_trade, ((1, 2), (((0,),), ((1,),)))),
    (frozen, (0, (1, 2))), (widened, (2, 3)), (split, (1,)), (merged, (1, 0)),
]
# Those with two rules, and those without any.
CALLS_OF_TWO = [(alike, ()), (parting, ()), (never_less, ()), (gainers, (WISHES,)), (all_gain, ()), (is_all_gain, (WISHES,))]
CALLS_OF_NONE = [
    (told_at, (BENT, (1, 4))), (bids_for, (BENT, (1, 4))), (around, (WISHES, (1, 4))), (is_table, (2, TABLE)), (rule_of, (2, TABLE)),
    (weights_of, (2, TABLE)), (bar_to_weights, (2, TABLE)), (is_bar_to_weights, (2, TABLE, (0, (), (1,)))), (by_counts, (2, TABLE)),
    (bar_to_counts, (2, TABLE)), (is_bar_to_counts, (2, TABLE, ((0,), (1,)))), (idle, (2, TABLE)),
    (read_rule, ("2 least(b0, 1/2)",)), (fits, (LOG, WISHES)), (fitting, (LOG,)), (places, (LOG, WISHES)), (may_stand, (LOG, 1)),
    (many_places, (LOG,)), (lambda line: Desk().tell(line), ("rule a 1 b0",)), (nearest_rule, (ROW, WISHES)),
    (fairest_rule, (ROW, WISHES)), (beaten_by, (ROW, WISHES)), (unbeaten, (ROW, WISHES)), (duels, (ROW, WISHES)), (best_number, (ROW, WISHES)),
    (outcomes, (ROW, WISHES)),
]
NEED_PLAIN = (is_quiet, weights, run, turn, most_drawn, drawing, is_drawing)


def deep_mean():
    made = ("bid", 0)
    for _ in range(59):
        made = ("mean", ((1, made), (1, ("bid", 1))))
    return made


class TestAllFunctions(unittest.TestCase):
    def test_equal_calls_give_equal_answers_and_change_nothing(self):
        for function, given in CALLS:
            kept = copy.deepcopy((MEAN2.people, MEAN2.term)), copy.copy(given)
            first = function(MEAN2, *given)
            again = function(Rule(2, copy.deepcopy(MEAN2.term)), *given)
            self.assertEqual(first, again)
            self.assertEqual(type(first), type(again))
            self.assertEqual(((MEAN2.people, MEAN2.term), given), kept, function)
        for function, given in CALLS_OF_TWO:
            self.assertEqual(function(MEAN2, cousin(MEAN2), *given), function(MEAN2, cousin(MEAN2), *given))
        for function, given in CALLS_OF_NONE:
            kept = copy.deepcopy(given)
            self.assertEqual(function(*given), function(*copy.deepcopy(given)))
            self.assertEqual(given, kept, function)

    def test_lists_and_dicts_that_are_returned_are_new(self):
        seen = set()
        for function, given in [(function, (MEAN2, *given)) for function, given in CALLS] + CALLS_OF_NONE:
            first = function(*given)
            if isinstance(first, (list, dict)):
                kept = copy.deepcopy(first)
                first.clear()
                self.assertEqual(function(*given), kept)
                seen.add(function)
        self.assertEqual(seen, {corners, chances, least_lots, least_blocks, levels, may_stand, words_of, duels, outcomes})

    def test_objects_keep_what_they_were_made_of(self):
        house, sitting, desk = House(MEAN2, WISHES), Sitting(MEAN2, WISHES, (0, 1)), Desk()
        desk.tell("rule a 2 mean(1*b0, 1*b1)")
        desk.tell("sit a 1/3,2/3 0,1")
        for _ in range(3):
            self.assertEqual((house.standing(), house.outcome(), house.pull(0)), ((MEAN2, WISHES), (1, 2), ((1, 2), (2, 3))))
            self.assertEqual((sitting.foreseen(), sitting.best()), ((1, 2), ((0, 1), (0, 1))))
            self.assertEqual((desk.tell("now"), desk.tell("corners a"), desk.undoable()), ("0 1/2", "0 1/2 1/2 1", 2))
        self.assertEqual(MEAN2, Rule(2, ("mean", ((1, ("bid", 0)), (1, ("bid", 1))))))

    def test_rules_of_sixty_deep(self):
        limit = sys.getrecursionlimit()
        # A few hundred calls must do, wherever the caller stands.
        sys.setrecursionlimit(600)
        try:
            for function, given in CALLS:
                made = deep_mean() if function in NEED_PLAIN else deep_term(60)
                function(unchecked(2, made), *given)
            deep, mean = unchecked(2, deep_term(60)), unchecked(2, deep_mean())
            for function, given in CALLS_OF_TWO:
                function(deep, mean, *given)
            for function, given in CALLS_OF_NONE:
                if given[0] is ROW:
                    function([deep, mean, deep], *given[1:])
            house = House(deep, WISHES)
            house.wish(0, house.outcome())
            house.edits(mean)
            house.trying(lambda given: given.goes(0))
            house.pull(0)
            composed(deep, (mean, deep))
            groups_first(mean, (mean, deep), WISHES * 2)
            groups_parting(deep, (mean, deep))
            sitting = Sitting(deep, WISHES, (0, 1))
            sitting.bid(sitting.best()[0])
            sitting.bid(sitting.foreseen())
            sitting.told()
            fitting(((deep, outcome(deep, WISHES)), (mean, outcome(mean, WISHES))))
            self.assertTrue(unchecked(2, deep_term(60)) == unchecked(2, deep_term(60)))
        finally:
            sys.setrecursionlimit(limit)

    def test_any_object_in_the_place_of_an_argument(self):
        for function, given in [(function, (MEAN2, *given)) for function, given in CALLS] + CALLS_OF_NONE:
            for at in range(len(given)):
                if given[at] in (plan, MEAN2):
                    continue
                # (1, 0) is no number, but an order and a schedule of two people; [MEAN2] is a row of rules.
                for thing in [one for one in ODD if one not in ((1, 0), [MEAN2])]:
                    try:
                        told = function(*given[:at], thing, *given[at + 1:])
                    except BidError:
                        self.assertFalse(function.__name__.startswith("is_") and at == len(given) - 1, function)
                    else:
                        self.assertIs(told, False, (function, at, thing))

    def test_numbers_that_are_told_are_fractions_in_lowest_terms(self):
        for number in (value(MEAN2, BIDS), outcome(MEAN2, WISHES), corner(MEAN2, ()), most_drawn(MEAN2)):
            self.assertIs(type(number), tuple)
            self.assertEqual([type(part) for part in number], [int, int])
        self.assertEqual(corner(MEAN2, ()), (0, 1))

    def test_judges_return_flags(self):
        for function, given in [(function, (MEAN2, *given)) for function, given in CALLS] + CALLS_OF_NONE:
            if function.__name__.startswith("is_"):
                self.assertIs(type(function(*given)), bool)


if __name__ == "__main__":
    unittest.main()
