"""Part 0: what holds of all functions."""

import copy
import sys
import unittest

from cornerbids.corners import corner, corners
from cornerbids.drawing import drawing, is_drawing, most_drawn
from cornerbids.errors import BidError
from cornerbids.lines import bids_for, foreseen_line, line, told_at
from cornerbids.outcomes import holding, is_outcome, outcome, outcome_behind, pressing, sides
from cornerbids.plain import is_plain, is_quiet, run, turn, weights
from cornerbids.plays import best_bids, best_play, bids_behind, foreseen, is_best, led
from cornerbids.rests import is_rest, is_single_rest, movers, moving_lots, rest
from cornerbids.rules import Rule, mirrored, renamed, value
from tests.things import MEAN2, ODD, deep_term, unchecked

WISHES = ((1, 3), (2, 3))
BIDS = ((0, 1), (1, 1))
BENT = (((0, 1), (0, 1)), ((1, 2), (1, 2)), ((1, 1), (1, 2)))


def plan(play):
    return (1, 2)


# Each function with right arguments behind the rule, of a rule of two people.
CALLS = [
    (value, (BIDS,)), (renamed, ((1, 0),)), (mirrored, ()), (corner, ((0,),)), (corners, ()), (outcome, (WISHES,)),
    (is_outcome, (WISHES, (1, 2))), (sides, (WISHES,)), (holding, (WISHES,)), (pressing, (WISHES,)),
    (outcome_behind, (WISHES, BIDS, (1,))), (line, (BIDS, 0)), (foreseen_line, (WISHES, BIDS, 0, (1,))),
    (bids_behind, ((0, 1), ((1, 2),))), (foreseen, (WISHES, (0, 1), ((1, 2),))), (best_bids, (WISHES, (0, 1), ((1, 2),))),
    (best_play, (WISHES, (0, 1, 0))), (is_best, (WISHES, (0, 1), BIDS)), (led, (WISHES, (0, 1), 0, plan)),
    (is_rest, (WISHES, BIDS)), (is_single_rest, (WISHES, BIDS)), (rest, (WISHES,)), (movers, (WISHES, BIDS)),
    (moving_lots, (WISHES, BIDS)), (is_plain, ()), (is_quiet, (WISHES, BIDS)), (weights, ()), (run, (WISHES, BIDS, (0, 1))),
    (turn, (WISHES, BIDS, 0)), (most_drawn, ()), (drawing, ()), (is_drawing, (BIDS,)),
]
NEED_PLAIN = (is_quiet, weights, run, turn, most_drawn, drawing, is_drawing)


def deep_mean():
    made = ("bid", 0)
    for _ in range(59):
        made = ("mean", ((1, made), (1, ("bid", 1))))
    return made


class TestAllFunctions(unittest.TestCase):
    def test_equal_calls_give_equal_answers_and_change_nothing(self):
        for function, given in CALLS:
            kept = copy.deepcopy((MEAN2.people, MEAN2.term)), copy.copy(given)
            first = function(MEAN2, *given)
            again = function(Rule(2, copy.deepcopy(MEAN2.term)), *given)
            self.assertEqual(first, again)
            self.assertEqual(type(first), type(again))
            self.assertEqual(((MEAN2.people, MEAN2.term), given), kept, function)
        for function in (told_at, bids_for):
            self.assertEqual(function(BENT, (1, 4)), function(BENT, (1, 4)))

    def test_rules_of_sixty_deep(self):
        limit = sys.getrecursionlimit()
        # A few hundred calls must do, wherever the caller stands.
        sys.setrecursionlimit(600)
        try:
            for function, given in CALLS:
                made = deep_mean() if function in NEED_PLAIN else deep_term(60)
                function(unchecked(2, made), *given)
            self.assertTrue(unchecked(2, deep_term(60)) == unchecked(2, deep_term(60)))
        finally:
            sys.setrecursionlimit(limit)

    def test_any_object_in_the_place_of_an_argument(self):
        for function, given in CALLS:
            for at in range(len(given)):
                if given[at] is plan:
                    continue
                # (1, 0) is no number, but an order and a schedule of two people.
                for thing in [one for one in ODD if one != (1, 0)]:
                    try:
                        told = function(MEAN2, *given[:at], thing, *given[at + 1:])
                    except BidError:
                        self.assertFalse(function.__name__.startswith("is_") and at == len(given) - 1, function)
                    else:
                        self.assertIs(told, False, (function, at, thing))

    def test_numbers_that_are_told_are_fractions_in_lowest_terms(self):
        for number in (value(MEAN2, BIDS), outcome(MEAN2, WISHES), corner(MEAN2, ()), most_drawn(MEAN2)):
            self.assertIs(type(number), tuple)
            self.assertEqual([type(part) for part in number], [int, int])
        self.assertEqual(corner(MEAN2, ()), (0, 1))

    def test_judges_return_flags(self):
        for function, given in CALLS:
            if function.__name__.startswith("is_"):
                self.assertIs(type(function(MEAN2, *given)), bool)


if __name__ == "__main__":
    unittest.main()
