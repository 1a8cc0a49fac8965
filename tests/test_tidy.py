"""20.1: rules tidied, and how large they are."""

import unittest
from collections import Counter

from cornerbids.comparing import alike, cousin
from cornerbids.corners import corners
from cornerbids.groups import composed
from cornerbids.lines import line
from cornerbids.outcomes import outcome
from cornerbids.reading import read_rule
from cornerbids.rules import Rule, mirrored, value
from cornerbids.tables import rule_of
from cornerbids.texts import rule_text
from cornerbids.tidy import depth, size, tidied, words_of
from tests import naive
from tests.things import MEAN2, MEAN3, chance, deep_term, nested, number, numbers, rules, table, unchecked

HALF = (1, 2)
# Each of the steps alone, and as it must be: texts of rules ahead of it and behind it.
STEPS = [
    # 1: of one term.
    ("1 mean(7*b0)", "1 b0"), ("1 least(b0)", "1 b0"), ("1 greatest(b0)", "1 b0"), ("1 ranked(1; b0)", "1 b0"),
    ("2 mean(3*mean(1*b0, 2*b1))", "2 mean(1*b0, 2*b1)"), ("1 least(1/2)", "1 1/2"),
    # 2: of fixed numbers alone.
    ("1 mean(1*0, 2*1)", "1 2/3"), ("1 ranked(2; 1/2, 1/3, 1)", "1 1/2"), ("1 least(1/2, 1/3)", "1 1/3"), ("1 greatest(1/2, 1/3)", "1 1/2"),
    ("1 between(1/4, 1/2; 1)", "1 1/2"), ("1 between(1/4, 1/2; 0)", "1 1/4"), ("1 between(1/4, 1/2; 1/3)", "1 1/3"), ("1 mean(1*0, 1*0)", "1 0"),
    # 3: the first and the last one.
    ("3 ranked(1; b0, b1, b2)", "3 greatest(b0, b1, b2)"), ("3 ranked(3; b0, b1, b2)", "3 least(b0, b1, b2)"),
    ("2 ranked(1; b1, b0)", "2 greatest(b1, b0)"), ("2 ranked(2; b1, b0)", "2 least(b1, b0)"),
    # 4: bounds.
    ("1 between(1/3, 1/3; b0)", "1 1/3"), ("1 between(0, 1; b0)", "1 b0"), ("1 between(0, 0; b0)", "1 0"), ("1 between(1, 1; b0)", "1 1"),
    # 5: one inside another.
    ("3 least(b0, least(b1, b2))", "3 least(b0, b1, b2)"), ("3 greatest(greatest(b2, b1), b0)", "3 greatest(b2, b1, b0)"),
    ("4 least(least(b3, b2), least(b1, b0))", "4 least(b3, b2, b1, b0)"), ("4 least(b0, least(b1, least(b2, b3)))", "4 least(b0, b1, b2, b3)"),
    # 6: equal terms.
    ("2 least(b0, b1, b0)", "2 least(b0, b1)"), ("2 greatest(b1, b0, b0, b1, b0)", "2 greatest(b1, b0)"), ("1 least(b0, b0)", "1 b0"),
    ("2 least(mean(1*b0, 2*b1), b0, mean(1*b0, 2*b1))", "2 least(mean(1*b0, 2*b1), b0)"), ("1 least(1/2, b0, 1/2)", "1 least(1/2, b0)"),
    # 7: two fixed numbers.
    ("1 least(1/2, b0, 1/3)", "1 least(1/3, b0)"), ("1 greatest(1/3, b0, 1/2)", "1 greatest(1/2, b0)"),
    ("1 least(b0, 1/3, 1/2)", "1 least(b0, 1/3)"), ("2 least(b0, 1/2, b1, 1/3, 1/4)", "2 least(b0, 1/4, b1)"),
    ("2 greatest(b0, 1/4, b1, 1/3, 1/2)", "2 greatest(b0, 1/2, b1)"),
    # 8: 0 and 1.
    ("2 least(b0, 1, b1)", "2 least(b0, b1)"), ("2 greatest(0, b0, b1)", "2 greatest(b0, b1)"), ("1 least(b0, 1)", "1 b0"),
    ("1 greatest(0, b0)", "1 b0"), ("2 least(b0, 0, b1)", "2 0"), ("2 greatest(b0, 1, b1)", "2 1"), ("1 least(b0, 0)", "1 0"),
    # Several in one term, from the innermost ones outward.
    ("2 least(b0, least(b1, b0))", "2 least(b0, b1)"), ("2 least(1, greatest(0, b1), b0, ranked(2; b0, b1))", "2 least(b1, b0)"),
    ("2 mean(2*least(1/2, 0), 3*between(0, 1; mean(1*b0)))", "2 mean(2*0, 3*b0)"), ("1 mean(1*greatest(b0, 1), 1*least(b0, 0))", "1 1/2"),
    ("1 ranked(2; 1, between(0, 1; 1/2), mean(1*1/3))", "1 1/2"), ("2 greatest(b0, least(b1, b1), ranked(1; b0, b1))", "2 greatest(b0, b1)"),
    ("1 between(1/4, 1/2; greatest(b0, 1))", "1 1/2"), ("2 least(greatest(b0, b1), greatest(b0, b1, b0))", "2 greatest(b0, b1)"),
    ("1 least(1, 1, b0)", "1 b0"), ("2 least(b0, least(b1, 1/2), 1/3, 1)", "2 least(b0, b1, 1/3)"),
    ("3 ranked(2; b0, least(b1, 1), ranked(2; b2, b2))", "3 ranked(2; b0, b1, b2)"), ("1 least(ranked(1; b0, b0), 1/2, ranked(2; b0, b0))", "1 least(b0, 1/2)"),
]
# What can't be tidied.
TIDY = ["1 b0", "1 1/2", "2 mean(1*b0, 1*b0)", "2 mean(2*b0, 4*b1)", "1 mean(1*b0, 1*1/2)", "2 mean(1*mean(1*b0, 1*b1), 1*b1)",
        "3 ranked(2; b0, b1, b2)", "1 ranked(2; b0, b0, b0)", "1 ranked(2; 0, b0, 1)", "1 between(0, 1/2; b0)", "1 between(1/2, 1; b0)",
        "2 least(b0, greatest(b0, b1))", "2 greatest(least(b0, b1), b0)", "2 least(b0, 1/2)", "2 greatest(1/2, b0)",
        "1 between(0, 1/2; between(1/4, 1; b0))", "2 least(mean(1*b0, 1*b1), mean(1*b1, 1*b0))", "2 least(b0, ranked(2; b0, b1, 1/2))",
        "2 mean(1*least(b0, b1), 1*least(b0, b1))", "1 ranked(3; b0, 1/2, 1/2, b0)"]


def inner(term):
    """The numbers of the parts of a term that hold its terms, and these."""
    if term[0] in ("bid", "fixed"):
        return []
    if term[0] == "mean":
        return [part for _, part in term[1]]
    return [term[3]] if term[0] == "between" else list(term[-1])


def with_terms(term, terms):
    if term[0] in ("bid", "fixed"):
        return term
    if term[0] == "mean":
        return ("mean", tuple((weight, new) for (weight, _), new in zip(term[1], terms)))
    return (*term[:3], terms[0]) if term[0] == "between" else (*term[:-1], tuple(terms))


def step(term):
    """The first of the eight steps that fits, each as it is written, only once; None if none fits."""
    word, terms = term[0], inner(term)
    fixed = [at for at, one in enumerate(terms) if one[0] == "fixed"]
    if word in ("mean", "least", "greatest", "ranked") and len(terms) == 1:
        return terms[0]
    if terms and len(fixed) == len(terms):
        return ("fixed", naive.pair(naive.told(term, [])))
    if word == "ranked" and term[1] in (1, len(terms)):
        return ("greatest" if term[1] == 1 else "least", tuple(terms))
    if word == "between" and term[1] == term[2]:
        return ("fixed", term[1])
    if word == "between" and (term[1], term[2]) == ((0, 1), (1, 1)):
        return terms[0]
    if word not in ("least", "greatest"):
        return None
    for at, one in enumerate(terms):
        if one[0] == word:
            return (word, tuple(terms[:at] + list(one[1]) + terms[at + 1:]))
    for at, one in enumerate(terms):
        if one in terms[at + 1:]:
            other = terms.index(one, at + 1)
            return (word, tuple(terms[:other] + terms[other + 1:]))
    pick = min if word == "least" else max
    if len(fixed) > 1:
        one, other = fixed[:2]
        kept = pick(terms[one], terms[other], key=lambda part: naive.told(part, []))
        return (word, tuple(terms[:one] + [kept] + terms[one + 1:other] + terms[other + 1:]))
    low, high = ("fixed", (0, 1)), ("fixed", (1, 1))
    goes, stays = (high, low) if word == "least" else (low, high)
    if goes in terms:
        return (word, tuple(one for one in terms if one != goes))
    return stays if stays in terms else None


def naive_tidied(term):
    term = with_terms(term, [naive_tidied(one) for one in inner(term)])
    while (found := step(term)) is not None:
        term = found
    return term


def all_terms(term):
    return [term] + [one for part in inner(term) for one in all_terms(part)]


def naive_depth(term):
    return 1 + max([naive_depth(one) for one in inner(term)], default=0)


def untidy_term(rng, people, deep):
    """A term in which the steps fit often."""
    word = rng.choice(("least", "greatest", "least", "greatest", "mean", "ranked", "between", "fixed", "bid")) if deep > 1 else rng.choice(
        ("bid", "bid", "fixed"))
    if word == "bid":
        return ("bid", rng.randrange(people))
    if word == "fixed":
        return ("fixed", rng.choice(((0, 1), (1, 1), (1, 2), (1, 3), number(rng))))
    if word == "between":
        low, high = rng.choice((((0, 1), (1, 1)), ((1, 3), (1, 3)), ((0, 1), (1, 2)), ((1, 4), (2, 3))))
        return ("between", low, high, untidy_term(rng, people, deep - 1))
    terms = tuple(untidy_term(rng, people, deep - 1) for _ in range(rng.randint(1, 4)))
    if word == "mean":
        return ("mean", tuple((rng.randint(1, 3), one) for one in terms))
    return ("ranked", rng.randint(1, len(terms)), terms) if word == "ranked" else (word, terms)


class TestTidied(unittest.TestCase):
    def test_each_step_and_several(self):
        for text, told in STEPS:
            made = read_rule(text)
            found = tidied(made)
            self.assertEqual(rule_text(found), told, text)
            self.assertIs(type(found), Rule)
            self.assertNotEqual(found, made)
            self.assertEqual(found.term, naive_tidied(made.term))
            self.assertEqual(rule_text(made), text)

    def test_what_cannot_be_tidied(self):
        for text in TIDY:
            self.assertEqual(tidied(read_rule(text)), read_rule(text))

    def test_by_chance(self):
        rng = chance(371)
        shorter = 0
        for _ in range(1500):
            people = rng.randint(1, 4)
            made = unchecked(people, untidy_term(rng, people, rng.randint(2, 5)))
            found = tidied(made)
            self.assertEqual(found.people, people)
            self.assertEqual(found.term, naive_tidied(made.term))
            self.assertEqual(tidied(found), found)
            bids = numbers(rng, people)
            self.assertEqual(value(found, bids), value(made, bids))
            shorter += found != made
        self.assertGreater(shorter, 700)

    def test_it_tells_the_same_for_all_bids(self):
        for rng, made in rules(372, 150, depth=4):
            found = tidied(made)
            for _ in range(4):
                bids = numbers(rng, made.people)
                self.assertEqual(value(found, bids), value(made, bids))
                self.assertEqual(outcome(found, bids), outcome(made, bids))
                self.assertEqual(line(found, bids, 0), line(made, bids, 0))
            self.assertEqual(corners(found), corners(made))
            self.assertIs(alike(found, made), True)
            self.assertLessEqual(size(found), size(made))
            self.assertLessEqual(depth(found), depth(made))

    def test_mirrored(self):
        rng = chance(373)
        for _ in range(300):
            made = unchecked(3, untidy_term(rng, 3, 4))
            self.assertEqual(tidied(mirrored(made)), mirrored(tidied(made)))

    def test_rules_larger_than_a_caller_may_construct(self):
        eight = ("least", tuple(("bid", person) for person in (0, 1, 2, 3, 4, 5, 0, 1)))
        made = Rule(6, ("least", (eight, ("greatest", (("bid", 0), eight)), eight, ("mean", ((1, ("bid", 0)), (1, eight))))))
        found = tidied(made)
        self.assertEqual(len(found.term[1]), 8)
        self.assertEqual(found.term, naive_tidied(made.term))
        # More terms in one than a caller may write: it is a rule for every function.
        wide = Rule(3, ("least", tuple(("least", tuple(("between", (0, 1), (one + 5 * at, 97), ("bid", one % 3)) for one in range(1, 6)))
                                       for at in range(1, 4))))
        found = tidied(wide)
        self.assertEqual(len(found.term[1]), 15)
        for bids in (((1, 2), (1, 3), (1, 4)), ((1, 98), (1, 97), (1, 1))):
            self.assertEqual(value(found, bids), value(wide, bids))
            self.assertEqual(outcome(found, bids), outcome(wide, bids))
            self.assertEqual(line(found, bids, 1), line(wide, bids, 1))
        self.assertEqual(mirrored(mirrored(found)), found)
        rng = chance(374)
        for _ in range(10):
            made = cousin(Rule(5, ("mean", tuple((rng.randint(1, 9), ("bid", person)) for person in range(5)))))
            self.assertEqual(tidied(made).term, naive_tidied(made.term))
            self.assertEqual(corners(tidied(made)), corners(made))
            other = rule_of(4, table(rng, 4))
            self.assertEqual(corners(tidied(other)), corners(other))
        inner_rule = Rule(2, ("least", tuple(("bid", at % 2) for at in range(8))))
        large = composed(Rule(3, ("least", tuple(("bid", at % 3) for at in range(8)))), (inner_rule,) * 3)
        self.assertEqual(rule_text(tidied(large)), "6 least(b0, b1, b2, b3, b4, b5)")
        self.assertEqual(size(large), 73)

    def test_rules_of_sixty_deep(self):
        made = unchecked(2, deep_term(60))
        self.assertEqual(tidied(made).term, naive_tidied(made.term))
        made = unchecked(1, nested(("bid", 0), 59, lambda term: ("least", (term, ("bid", 0)))))
        self.assertEqual(tidied(made), Rule(1, ("bid", 0)))
        self.assertEqual(depth(made), 60)


class TestSizes(unittest.TestCase):
    def test_ordinary_ones(self):
        self.assertEqual((size(MEAN3), depth(MEAN3), words_of(MEAN3)), (4, 2, {"mean": 1, "bid": 3}))
        one = Rule(1, ("bid", 0))
        self.assertEqual((size(one), depth(one), words_of(one)), (1, 1, {"bid": 1}))
        fixed = Rule(3, ("fixed", HALF))
        self.assertEqual((size(fixed), depth(fixed), words_of(fixed)), (1, 1, {"fixed": 1}))
        made = read_rule("2 least(b0, ranked(1; b0, mean(3*1/2, 2*b1)), between(0, 1/2; greatest(b0)), b0)")
        self.assertEqual(size(made), 11)
        self.assertEqual(depth(made), 4)
        self.assertEqual(words_of(made), {"least": 1, "ranked": 1, "mean": 1, "between": 1, "greatest": 1, "fixed": 1, "bid": 5})

    def test_by_chance(self):
        for _, made in rules(375, 200, depth=5):
            terms = all_terms(made.term)
            self.assertEqual(size(made), len(terms))
            self.assertEqual(depth(made), naive_depth(made.term))
            self.assertEqual(words_of(made), dict(Counter(term[0] for term in terms)))

    def test_equal_terms_count_each(self):
        half = ("mean", ((1, ("bid", 0)), (1, ("bid", 1))))
        made = Rule(2, ("least", (half, half, half)))
        self.assertEqual((size(made), depth(made)), (10, 3))
        self.assertEqual(words_of(made), {"least": 1, "mean": 3, "bid": 6})

    def test_each_dict_is_new(self):
        found = words_of(MEAN2)
        found["odd"] = 1
        self.assertEqual(words_of(MEAN2), {"mean": 1, "bid": 2})

    def test_deep_rules(self):
        made = unchecked(2, deep_term(60))
        self.assertEqual((size(made), depth(made)), (len(all_terms(made.term)), 60))


if __name__ == "__main__":
    unittest.main()
