"""1.1 to 1.3: rules."""

import unittest

from cornerbids.errors import BadRule, NoBids, NoOrder
from cornerbids.rules import Rule, mirrored, renamed, value
from tests import naive
from tests.things import MEAN2, MEAN3, ODD, chance, deep_term, numbers, rules, spoiled, unchecked

BID = ("bid", 0)


def chain(depth):
    term = BID
    for _ in range(depth - 1):
        term = ("least", (term,))
    return term


def count(term):
    if term[0] in ("bid", "fixed"):
        return 1
    if term[0] == "between":
        return 1 + count(term[3])
    inner = [part[1] for part in term[1]] if term[0] == "mean" else term[-1]
    return 1 + sum(count(part) for part in inner)


RIGHT_TERMS = [
    ("bid", 0), ("bid", 1), ("fixed", (0, 1)), ("fixed", (1, 1)), ("fixed", (2, 3)), ("fixed", (1, 10 ** 199)),
    ("mean", ((1, BID),)), ("mean", ((99, BID), (1, ("fixed", (1, 2))))), ("mean", ((1, BID),) * 8),
    ("least", (BID,)), ("least", (BID,) * 8), ("greatest", (BID,)), ("greatest", (BID,) * 8),
    ("ranked", 1, (BID,)), ("ranked", 1, (BID,) * 8), ("ranked", 8, (BID,) * 8),
    ("between", (0, 1), (1, 1), BID), ("between", (1, 2), (1, 2), BID), ("between", (1, 3), (1, 2), ("least", (BID,))),
]

WRONG_TERMS = [
    ("bid", 2), ("bid", -1), ("bid", 0, 0), ("bid",), ("bids", 0), ("Bid", 0), (b"bid", 0), ["bid", 0], ("bid", (0,)),
    ("bid", True), ("bid", False), ("bid", None), ("fixed", (2, 4)), ("fixed", (0, 2)), ("fixed", (3, 2)), ("fixed", (-1, 2)),
    ("fixed", (1, 0)), ("fixed", (1, -2)), ("fixed", (-1, -2)), ("fixed", [0, 1]), ("fixed", (0, True)), ("fixed", 0),
    ("fixed", (0, 1), (0, 1)), ("fixed", 0, 1), ("mean", ()), ("mean", ((1, BID),) * 9), ("mean", ((0, BID),)),
    ("mean", ((100, BID),)), ("mean", ((True, BID),)), ("mean", [(1, BID)]), ("mean", ([1, BID],)), ("mean", (BID,)),
    ("mean", ((1, BID, 1),)), ("mean", (1, BID)), ("mean", ((1,),)), ("mean", ((-1, BID), (2, BID))), ("mean", 1, (BID,)),
    ("least", ()), ("least", (BID,) * 9), ("least", [BID]), ("least", BID), ("least",), ("least", 1, (BID,)),
    ("greatest", ()), ("greatest", (BID,) * 9), ("greatest", {0: BID}), ("greatest", ((1, BID),)),
    ("ranked", 0, (BID,)), ("ranked", 2, (BID,)), ("ranked", True, (BID,)), ("ranked", 1, ()), ("ranked", 1, (BID,) * 9),
    ("ranked", (BID,)), ("ranked", 1, [BID]), ("ranked", (BID,), 1), ("ranked", 1, (BID,), 1), ("ranked", 9, (BID,) * 8),
    ("between", (1, 2), (1, 3), BID), ("between", (0, 1), (1, 1)), ("between", (0, 1), (1, 1), (BID,)),
    ("between", [0, 1], (1, 1), BID), ("between", (0, 1), (2, 1), BID), ("between", (0, 2), (1, 1), BID),
    ("between", (0, 1), (1, 1), BID, BID), ("least", (BID, ("bid", 9))), ("mean", ((1, ("least", ([],))),)), (), "bid",
    ("odd", (BID,)), ("median", (BID, BID)), ("Least", (BID,)), ("", (BID,)), (b"least", (BID,)), (None, (BID,)),
    (("least",), (BID,)), (["least"], (BID,)), (1, (BID,)), ("between ", (0, 1), (1, 1), BID), ("rank", 1, (BID,)),
]


class TestConstructing(unittest.TestCase):
    """1.1"""

    def fails(self, part, people, term):
        with self.assertRaises(BadRule) as caught:
            Rule(people, term)
        self.assertEqual(caught.exception.part, part)

    def test_keeps_people_and_term(self):
        for term in RIGHT_TERMS:
            rule = Rule(2, term)
            self.assertEqual((rule.people, rule.term), (2, term))
            self.assertIs(type(rule.term), tuple)

    def test_one_person_and_six(self):
        self.assertEqual(Rule(1, BID).people, 1)
        self.assertEqual(Rule(6, ("bid", 5)).people, 6)
        self.fails("term", 1, ("bid", 1))
        self.fails("term", 6, ("bid", 6))

    def test_wrong_people(self):
        for people in [0, 7, -1, True, None, "2", (2,), [2], b"2", 10 ** 199, (1, 1), Rule, MEAN2]:
            self.fails("people", people, BID)
            self.fails("people", people, ("odd",))
        for people in ODD:
            self.fails("people", people, BID)

    def test_wrong_terms(self):
        for term in WRONG_TERMS + ODD:
            self.fails("term", 2, term)
            self.fails("term", 2, ("least", (BID, term)))
            self.fails("term", 2, ("mean", ((1, term),)))

    def test_something_odd_anywhere(self):
        rich = ("mean", ((2, ("ranked", 2, (("between", (0, 1), (1, 2), ("bid", 1)), BID))), (1, ("fixed", (1, 3)))))
        Rule(2, rich)
        for term in spoiled(rich):
            self.fails("term", 2, term)

    def test_eight_deep_and_nine(self):
        self.assertEqual(Rule(1, chain(8)).term, chain(8))
        self.fails("term", 1, chain(9))
        self.fails("term", 1, chain(14))
        self.fails("term", 1, ("mean", ((1, BID), (1, chain(8)))))

    def test_sixty_terms_and_sixty_one(self):
        # 7 times 8 terms, one around them, and then some beside them.
        eights = tuple(("greatest", (BID,) * 4 + (("fixed", (at + 1, 11)),) * 3) for at in range(7))
        for beside, many in ((("least", (BID,) * 2), 60), (("least", (BID,) * 3), 61), (("least", (BID,) * 8), 66)):
            term = ("mean", tuple((1, part) for part in (*eights, beside)))
            self.assertEqual(count(term), many)
            if many > 60:
                self.fails("term", 1, term)
            else:
                self.assertEqual(Rule(1, term).term, term)

    def test_alike_terms_count_as_often_as_they_stand(self):
        shared = ("least", (BID,) * 8)
        self.assertEqual(count(("least", (shared,) * 6 + (("mean", ((1, BID),) * 4),))), 60)
        Rule(1, ("least", (shared,) * 6 + (("mean", ((1, BID),) * 4),)))
        self.fails("term", 1, ("least", (shared,) * 6 + (("mean", ((1, BID),) * 5),)))
        self.fails("term", 1, ("least", (shared,) * 7))

    def test_equal_just_if_both_are(self):
        self.assertEqual(Rule(2, BID), Rule(2, ("bid", 0)))
        self.assertFalse(Rule(2, BID) != Rule(2, ("bid", 0)))
        self.assertNotEqual(Rule(2, BID), Rule(3, BID))
        self.assertNotEqual(Rule(2, BID), Rule(2, ("bid", 1)))
        self.assertNotEqual(Rule(2, BID), Rule(2, ("least", (BID,))))
        self.assertNotEqual(Rule(2, ("least", (BID, ("bid", 1)))), Rule(2, ("least", (("bid", 1), BID))))

    def test_equal_to_no_other_thing(self):
        for thing in [one for one in ODD if not isinstance(one, Rule)] + [(2, BID), BID]:
            self.assertFalse(Rule(2, BID) == thing)
            self.assertTrue(Rule(2, BID) != thing)


class TestValue(unittest.TestCase):
    """1.2"""

    def told(self, term, bids):
        return value(Rule(len(bids), term), bids)

    def test_each_word(self):
        bids = ((1, 4), (1, 2), (1, 1))
        three = (("bid", 0), ("bid", 1), ("bid", 2))
        self.assertEqual(self.told(("bid", 1), bids), (1, 2))
        self.assertEqual(self.told(("fixed", (2, 7)), bids), (2, 7))
        self.assertEqual(self.told(("mean", ((1, three[0]), (2, three[1]), (3, three[2]))), bids), (17, 24))
        self.assertEqual(self.told(("least", three), bids), (1, 4))
        self.assertEqual(self.told(("greatest", three), bids), (1, 1))
        for k, number in ((1, (1, 1)), (2, (1, 2)), (3, (1, 4))):
            self.assertEqual(self.told(("ranked", k, three), bids), number)

    def test_ranked_counts_each_as_often_as_it_stands(self):
        terms = (("bid", 0), ("fixed", (1, 2)), ("bid", 0), ("fixed", (1, 3)))
        told = [self.told(("ranked", k, terms), ((1, 2),)) for k in (1, 2, 3, 4)]
        self.assertEqual(told, [(1, 2), (1, 2), (1, 2), (1, 3)])

    def test_between(self):
        for bid, told in (((0, 1), (1, 3)), ((1, 3), (1, 3)), ((1, 2), (1, 2)), ((2, 3), (2, 3)), ((1, 1), (2, 3))):
            self.assertEqual(self.told(("between", (1, 3), (2, 3), BID), (bid,)), told)
        self.assertEqual(self.told(("between", (1, 2), (1, 2), BID), ((1, 1),)), (1, 2))

    def test_lowest_terms_at_the_ends(self):
        self.assertEqual(value(MEAN2, ((0, 1), (0, 1))), (0, 1))
        self.assertEqual(value(MEAN2, ((1, 1), (1, 1))), (1, 1))
        self.assertEqual(value(MEAN2, ((1, 3), (2, 3))), (1, 2))

    def test_by_chance(self):
        for rng, rule in rules(1, 150, depth=4):
            bids = numbers(rng, rule.people)
            self.assertEqual(value(rule, bids), naive.pair(naive.value(rule, bids)))

    def test_large_integers(self):
        tiny = (1, 10 ** 199)
        self.assertEqual(value(MEAN2, (tiny, (0, 1))), (1, 2 * 10 ** 199))

    def test_rules_beyond_the_bounds(self):
        for depth in (9, 59, 60):
            rule = unchecked(2, deep_term(depth))
            bids = ((1, 3), (4, 5))
            self.assertEqual(value(rule, bids), naive.pair(naive.value(rule, bids)))
        many = unchecked(2, ("ranked", 30, (("bid", 0), ("bid", 1), ("fixed", (1, 2))) * 20))
        self.assertEqual(value(many, ((1, 3), (2, 3))), (1, 2))

    def test_no_bids(self):
        right = ((0, 1), (1, 2), (1, 1))
        for bids in spoiled(right) + [right[:2], right + ((0, 1),), ()]:
            self.assertRaises(NoBids, value, MEAN3, bids)


class TestRenamed(unittest.TestCase):
    """1.3"""

    def test_person_k_is_called_order_k(self):
        rule = Rule(3, ("mean", ((2, ("bid", 0)), (1, ("ranked", 2, (("bid", 1), ("between", (0, 1), (1, 2), ("bid", 2))))))))
        told = Rule(3, ("mean", ((2, ("bid", 2)), (1, ("ranked", 2, (("bid", 0), ("between", (0, 1), (1, 2), ("bid", 1))))))))
        self.assertEqual(renamed(rule, (2, 0, 1)), told)
        self.assertEqual(renamed(rule, (0, 1, 2)), rule)

    def test_by_chance(self):
        for rng, rule in rules(2, 60):
            order = list(range(rule.people))
            rng.shuffle(order)
            other = renamed(rule, tuple(order))
            bids = numbers(rng, rule.people)
            self.assertEqual(value(other, bids), value(rule, tuple(bids[order[k]] for k in range(rule.people))))

    def test_no_order(self):
        wrong = [(), (0, 1), (0, 1, 1), (0, 1, 3), (1, 2, 3), (0, 1, 2, 2), (-1, 0, 1), [0, 1, 2], (0, True, 2)]
        for order in wrong + spoiled((2, 0, 1)):
            self.assertRaises(NoOrder, renamed, MEAN3, order)

    def test_rules_beyond_the_bounds(self):
        rule = unchecked(2, deep_term(60))
        self.assertEqual(renamed(renamed(rule, (1, 0)), (1, 0)), rule)
        self.assertEqual(mirrored(mirrored(rule)), rule)


class TestMirrored(unittest.TestCase):
    """1.3"""

    def test_each_word(self):
        pairs = [
            (BID, BID),
            (("fixed", (1, 3)), ("fixed", (2, 3))),
            (("fixed", (0, 1)), ("fixed", (1, 1))),
            (("mean", ((3, BID), (1, ("fixed", (1, 1))))), ("mean", ((3, BID), (1, ("fixed", (0, 1)))))),
            (("least", (BID, ("fixed", (1, 4)))), ("greatest", (BID, ("fixed", (3, 4))))),
            (("greatest", (BID, ("fixed", (1, 4)))), ("least", (BID, ("fixed", (3, 4))))),
            (("ranked", 1, (BID, BID, BID)), ("ranked", 3, (BID, BID, BID))),
            (("ranked", 2, (BID, ("fixed", (1, 5)), BID)), ("ranked", 2, (BID, ("fixed", (4, 5)), BID))),
            (("between", (1, 5), (1, 2), ("fixed", (0, 1))), ("between", (1, 2), (4, 5), ("fixed", (1, 1)))),
        ]
        for one, other in pairs:
            self.assertEqual(mirrored(Rule(1, one)), Rule(1, other))
            self.assertEqual(mirrored(Rule(1, other)), Rule(1, one))

    def test_by_chance(self):
        for rng, rule in rules(3, 80):
            bids = numbers(rng, rule.people)
            turned = tuple((bottom - top, bottom) for top, bottom in bids)
            top, bottom = value(rule, bids)
            self.assertEqual(value(mirrored(rule), turned), (bottom - top, bottom))


if __name__ == "__main__":
    unittest.main()
