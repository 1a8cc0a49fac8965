"""11.1: groups that settle first."""

import unittest
from itertools import product

from cornerbids.errors import NoWishes, TooMany
from cornerbids.groups import composed, groups_first, groups_parting
from cornerbids.outcomes import outcome
from cornerbids.rules import Rule, value
from tests import naive
from tests.things import MEAN2, MEAN3, ODD, chance, deep_term, nested, numbers, rule, spoiled, unchecked

ZERO, HALF, ONE = (0, 1), (1, 2), (1, 1)
LEAST = Rule(2, ("least", (("bid", 0), ("bid", 1))))
MEDIAN = Rule(3, ("ranked", 2, (("bid", 0), ("bid", 1), ("bid", 2))))
ALONE = Rule(1, ("bid", 0))
SIXTH = Rule(6, ("bid", 5))
SEVEN = [(MEAN2, (MEAN3, Rule(4, ("bid", 3)))), (MEAN2, (ALONE, rule(chance(151), 6))), (MEAN3, (MEAN2, LEAST, MEDIAN)),
         (SIXTH, (ALONE,) * 5 + (MEAN2,)), (SIXTH, (MEAN3,) * 6), (MEAN2, (SIXTH, ALONE))]


def split(people, rng):
    """Sizes of groups that come to so many people."""
    sizes = []
    while people:
        sizes.append(rng.randint(1, people))
        people -= sizes[-1]
    return sizes


def groups(seed, many, most=6):
    rng = chance(seed)
    for _ in range(many):
        sizes = split(rng.randint(1, most), rng)
        yield rng, rule(rng, len(sizes)), tuple(rule(rng, size, 2) for size in sizes)


def parts(inners, row):
    for inner in inners:
        yield inner, row[:inner.people]
        row = row[inner.people:]


def naive_first(outer, inners, wishes):
    return naive.outcome(outer, [naive.pair(naive.outcome(inner, part)) for inner, part in parts(inners, wishes)])


def naive_composed(outer, inners, bids):
    """The number of the outer rule for the numbers of the inner ones."""
    return naive.value(outer, [naive.pair(naive.value(inner, part)) for inner, part in parts(inners, bids)])


def ones(people, lot):
    return tuple(ONE if person in lot else ZERO for person in range(people))


class TestComposed(unittest.TestCase):
    def test_its_term(self):
        made = composed(LEAST, (MEAN2, ALONE))
        self.assertEqual(made, Rule(3, ("least", (("mean", ((1, ("bid", 0)), (1, ("bid", 1)))), ("bid", 2)))))
        made = composed(LEAST, (ALONE, MEAN2))
        self.assertEqual(made, Rule(3, ("least", (("bid", 0), ("mean", ((1, ("bid", 1)), (1, ("bid", 2))))))))
        twice = Rule(2, ("ranked", 2, (("bid", 1), ("fixed", HALF), ("between", ZERO, HALF, ("bid", 1)), ("bid", 0))))
        inner = ("least", (("bid", 1), ("bid", 2)))
        self.assertEqual(composed(twice, (ALONE, LEAST)), Rule(3, (
            "ranked", 2, (inner, ("fixed", HALF), ("between", ZERO, HALF, inner), ("bid", 0)))))
        weighted = Rule(2, ("mean", ((3, ("bid", 0)), (2, ("greatest", (("bid", 0), ("bid", 1)))))))
        self.assertEqual(composed(weighted, (ALONE, ALONE)), weighted)

    def test_groups_of_one_and_one_group(self):
        self.assertEqual(composed(MEAN3, (ALONE,) * 3), MEAN3)
        self.assertEqual(composed(ALONE, (MEAN3,)), MEAN3)
        self.assertEqual(composed(Rule(1, ("fixed", HALF)), (MEAN3,)), Rule(3, ("fixed", HALF)))
        made = composed(MEAN2, (Rule(1, ("fixed", HALF)), ALONE))
        self.assertEqual(made, Rule(2, ("mean", ((1, ("fixed", HALF)), (1, ("bid", 1))))))

    def test_by_chance(self):
        for rng, outer, inners in groups(152, 120):
            made = composed(outer, inners)
            people = sum(inner.people for inner in inners)
            self.assertIs(type(made), Rule)
            self.assertEqual(made.people, people)
            bids = numbers(rng, people)
            self.assertEqual(value(made, bids), naive.pair(naive_composed(outer, inners, bids)))

    def test_deeper_and_larger_than_a_caller_may_construct(self):
        made = ALONE
        for _ in range(6):
            made = composed(Rule(1, nested(("bid", 0), 7, lambda term: ("least", (term,)))), (made,))
        self.assertEqual(made.term, nested(("bid", 0), 42, lambda term: ("least", (term,))))
        self.assertEqual(value(made, (HALF,)), HALF)
        wide = Rule(1, ("mean", ((1, ("bid", 0)),) * 8))
        wider = composed(wide, (composed(wide, (composed(wide, (wide,)),)),))
        self.assertEqual(outcome(wider, (HALF,)), HALF)
        self.assertEqual(wider.term[1][7][1][1][0][1][1][3][1][1][5], (1, ("bid", 0)))

    def test_rules_of_sixty_deep(self):
        deep = unchecked(2, deep_term(60))
        made = composed(deep, (deep, deep))
        bids = (HALF, ONE, ZERO, (1, 3))
        self.assertEqual(value(made, bids), naive.pair(naive_composed(deep, (deep, deep), bids)))
        self.assertEqual(groups_first(deep, (deep, deep), bids), naive.pair(naive_first(deep, (deep, deep), bids)))
        self.assertIsNone(groups_parting(unchecked(2, nested(("bid", 0), 59, lambda term: ("least", (term,)))), (deep, deep)))


class TestGroupsFirst(unittest.TestCase):
    def test_ordinary_ones(self):
        # All alone: the groups change nothing.
        wishes = (ZERO, HALF, ONE)
        self.assertEqual(groups_first(MEAN3, (ALONE,) * 3, wishes), outcome(MEAN3, wishes))
        self.assertEqual(groups_first(ALONE, (MEAN3,), wishes), outcome(MEAN3, wishes))
        # The first group settles on 1/2, and so much is held by one of two.
        self.assertEqual(groups_first(MEAN2, (MEAN2, ALONE), (ZERO, ONE, ZERO)), HALF)
        self.assertEqual(outcome(composed(MEAN2, (MEAN2, ALONE)), (ZERO, ONE, ZERO)), (1, 4))

    def test_by_chance(self):
        for rng, outer, inners in groups(153, 150):
            wishes = numbers(rng, sum(inner.people for inner in inners))
            self.assertEqual(groups_first(outer, inners, wishes), naive.pair(naive_first(outer, inners, wishes)))

    def test_six_people_of_one_group_each_and_of_one_group(self):
        rng = chance(154)
        wishes = numbers(rng, 6)
        six = rule(rng, 6)
        self.assertEqual(groups_first(six, (ALONE,) * 6, wishes), outcome(six, wishes))
        self.assertEqual(groups_first(ALONE, (six,), wishes), outcome(six, wishes))


class TestGroupsParting(unittest.TestCase):
    def test_ordinary_ones(self):
        self.assertIsNone(groups_parting(MEAN3, (ALONE,) * 3))
        self.assertIsNone(groups_parting(ALONE, (MEAN3,)))
        self.assertIsNone(groups_parting(LEAST, (MEAN2, MEAN2)))
        self.assertIsNone(groups_parting(MEDIAN, (MEAN2, ALONE, MEAN2)))
        # A mean of means: one of a group of two is worth 1/4 to the composed rule, and 1/2 if that group settles first.
        self.assertEqual(groups_parting(MEAN2, (MEAN2, ALONE)), (0,))
        self.assertEqual(groups_parting(MEAN2, (ALONE, MEAN2)), (1,))
        self.assertEqual(groups_parting(MEAN2, (LEAST, Rule(2, ("least", (("bid", 0), MEAN2.term))))), (2,))

    def test_eleventh_fact_by_chance(self):
        seen = {True: 0, False: 0}
        for rng, outer, inners in groups(155, 100, 5):
            people = sum(inner.people for inner in inners)
            made = composed(outer, inners)
            lots = [lot for lot in naive.all_lots(people) if naive_first(outer, inners, ones(people, lot)) !=
                    naive.outcome(made, ones(people, lot))]
            found = groups_parting(outer, inners)
            self.assertEqual(found, lots[0] if lots else None)
            seen[found is None] += 1
            if found is None:
                for _ in range(10):
                    wishes = numbers(rng, people)
                    self.assertEqual(groups_first(outer, inners, wishes), outcome(made, wishes))
            else:
                wishes = ones(people, found)
                self.assertNotEqual(groups_first(outer, inners, wishes), outcome(made, wishes))
        self.assertGreater(min(seen.values()), 15)

    def test_all_wishes_of_a_grid(self):
        for _, outer, inners in groups(156, 25, 3):
            people = sum(inner.people for inner in inners)
            grid = product((ZERO, (1, 4), HALF, (3, 4), ONE), repeat=people)
            same = all(groups_first(outer, inners, wishes) == outcome(composed(outer, inners), wishes) for wishes in grid)
            self.assertIs(same, groups_parting(outer, inners) is None)


class TestErrors(unittest.TestCase):
    def test_six_people_in_all_and_seven(self):
        for outer, inners in SEVEN:
            for function, more in ((composed, ()), (groups_first, (None,)), (groups_parting, ()), (groups_first, ((ZERO,) * 7,))):
                with self.assertRaises(TooMany) as caught:
                    function(outer, inners, *more)
                self.assertEqual(caught.exception.most, 6)
        self.assertEqual(composed(MEAN2, (MEAN3, MEAN3)).people, 6)
        self.assertEqual(groups_first(MEAN2, (MEAN3, MEAN3), (HALF,) * 6), HALF)
        self.assertEqual(groups_parting(MEAN2, (MEAN3, MEAN3)), (0,))

    def test_no_wishes_behind_too_many(self):
        right = (ZERO, HALF, ONE)
        for wrong in spoiled(right) + [right[:2], right + (ONE,), (), *ODD]:
            self.assertRaises(NoWishes, groups_first, MEAN2, (MEAN2, ALONE), wrong)
            self.assertRaises(TooMany, groups_first, MEAN2, (MEAN3, Rule(4, ("bid", 0))), wrong)


if __name__ == "__main__":
    unittest.main()
