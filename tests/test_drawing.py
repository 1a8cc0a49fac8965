"""6.3: how far play can draw a mean."""

import unittest
from fractions import Fraction
from itertools import combinations, product

from cornerbids.drawing import drawing, is_drawing, most_drawn
from cornerbids.errors import NotPlain
from cornerbids.plain import weights
from cornerbids.rules import Rule
from tests import naive
from tests.test_plain import plain_rules
from tests.things import MEAN2, MEAN3, chance, numbers, rules, spoiled

ZERO, ONE = (0, 1), (1, 1)
LOSSY = Rule(2, ("mean", ((2, ("bid", 0)), (1, ("bid", 1)), (1, ("fixed", ZERO)))))
NOT_SO_PLAIN = [
    Rule(1, ("mean", ((1, ("bid", 0)), (1, ("fixed", (1, 2)))))), Rule(1, ("mean", ((99, ("bid", 0)), (1, ("fixed", ONE))))),
    Rule(2, ("bid", 0)), Rule(2, ("least", (("bid", 0), ("bid", 1)))), Rule(1, ("fixed", ZERO)), Rule(1, ("least", (("bid", 0),))),
]


def draw(made, wishes):
    return abs(naive.value(made, wishes) - naive.outcome(made, wishes))


def sums(made):
    fractions = naive.fractions_of(weights(made)[0])
    return [sum(some) for many in range(made.people + 1) for some in combinations(fractions, many)]


def means(seed, many):
    """Plain rules with a last fraction of 0."""
    return [(rng, made) for rng, made in plain_rules(seed, many) if weights(made)[1] == ZERO] + [
        (chance(seed), made) for made in (MEAN2, MEAN3, LOSSY, Rule(1, ("bid", 0)))]


class TestMostDrawn(unittest.TestCase):
    def test_ordinary_ones(self):
        self.assertEqual(most_drawn(MEAN2), (1, 4))
        self.assertEqual(most_drawn(Rule(1, ("bid", 0))), ZERO)
        self.assertEqual(most_drawn(LOSSY), (1, 4))
        self.assertEqual(most_drawn(Rule(2, ("mean", ((9, ("bid", 0)), (1, ("bid", 1)))))), (9, 100))
        self.assertEqual(most_drawn(Rule(1, ("mean", ((1, ("bid", 0)), (3, ("fixed", ZERO)))))), (3, 16))

    def test_sixth_fact_by_chance(self):
        for _, made in means(71, 120):
            self.assertEqual(most_drawn(made), naive.pair(max(part * (1 - part) for part in sums(made))))

    def test_no_wishes_draw_farther(self):
        for rng, made in means(72, 60):
            most = Fraction(*most_drawn(made))
            for _ in range(20):
                self.assertLessEqual(draw(made, numbers(rng, made.people)), most)

    def test_the_greatest_of_a_grid(self):
        grid = [naive.pair(Fraction(at, 4)) for at in range(5)]
        for made in (MEAN2, LOSSY):
            greatest = max(draw(made, wishes) for wishes in product(grid, repeat=2))
            self.assertEqual(Fraction(*most_drawn(made)), greatest)


class TestDrawing(unittest.TestCase):
    def test_draws_just_the_most(self):
        for _, made in means(73, 120):
            wishes = drawing(made)
            self.assertEqual(naive.pair(draw(made, wishes)), most_drawn(made))
            self.assertIs(is_drawing(made, wishes), True)
            self.assertEqual(len(wishes), made.people)


class TestIsDrawing(unittest.TestCase):
    def test_by_chance(self):
        seen = set()
        for _, made in means(74, 30):
            if made.people > 3:
                continue
            parts = [naive.pair(part) for part in sorted(set(sums(made)))] + [ONE]
            for wishes in product(parts, repeat=made.people):
                told = is_drawing(made, wishes)
                self.assertIs(told, naive.pair(draw(made, wishes)) == most_drawn(made))
                seen.add(told)
        self.assertEqual(seen, {True, False})

    def test_one_person(self):
        for wish in (ZERO, (1, 3), ONE):
            self.assertIs(is_drawing(Rule(1, ("bid", 0)), (wish,)), True)

    def test_judges_any_object(self):
        right = ((1, 3), ZERO, ZERO)
        self.assertIs(is_drawing(MEAN3, right), True)
        for thing in spoiled(right) + [right[:2], right + (ZERO,), ()]:
            self.assertIs(is_drawing(MEAN3, thing), False)
        for thing in [((0, 2),), [(0, 1)], (), (True,), None]:
            self.assertIs(is_drawing(Rule(1, ("bid", 0)), thing), False)


class TestNotPlain(unittest.TestCase):
    def test_also_with_another_last_fraction(self):
        others = [made for _, made in plain_rules(75, 60) if weights(made)[1] != ZERO]
        self.assertTrue(others)
        for made in NOT_SO_PLAIN + others:
            self.assertRaises(NotPlain, most_drawn, made)
            self.assertRaises(NotPlain, drawing, made)
            self.assertRaises(NotPlain, is_drawing, made, None)
            self.assertRaises(NotPlain, is_drawing, made, (ZERO,) * made.people)

    def test_rules_by_chance(self):
        for _, made in rules(76, 60):
            if made.term[0] not in ("bid", "mean"):
                self.assertRaises(NotPlain, most_drawn, made)


if __name__ == "__main__":
    unittest.main()
