"""23.1 and 23.2: people come and go, and a house under way."""

import unittest

from cornerbids.errors import (BidError, NoNumber, NoPeople, NoPerson, NothingDone, NoWeight, NoWishes, OtherPeople, TooMany)
from cornerbids.houses import House, frozen, merged, split, widened
from cornerbids.outcomes import outcome
from cornerbids.reading import read_rule
from cornerbids.rules import Rule, value
from cornerbids.texts import rule_text
from cornerbids.tidy import depth
from tests import naive
from tests.things import MEAN2, MEAN3, ODD, chance, nested, number, numbers, rule, rules, spoiled, unchecked

ZERO, HALF, ONE = (0, 1), (1, 2), (1, 1)
WISHES = (ZERO, HALF, ONE)
SIX = Rule(6, ("mean", tuple((person + 1, ("bid", person)) for person in range(6))))
ALONE = Rule(1, ("bid", 0))
MIXED = read_rule("3 least(b0, greatest(b1, 1/2), mean(1*b2, 2*b0), ranked(2; b1, b2), between(0, 1/3; b2))")


def without(row, at):
    return (*row[:at], *row[at + 1:])


class TestFrozen(unittest.TestCase):
    def test_its_term(self):
        self.assertEqual(rule_text(frozen(MIXED, 0, (1, 4))),
                         "2 least(1/4, greatest(b0, 1/2), mean(1*b1, 2*1/4), ranked(2; b0, b1), between(0, 1/3; b1))")
        self.assertEqual(rule_text(frozen(MIXED, 1, ZERO)),
                         "2 least(b0, greatest(0, 1/2), mean(1*b1, 2*b0), ranked(2; 0, b1), between(0, 1/3; b1))")
        self.assertEqual(rule_text(frozen(MIXED, 2, ONE)),
                         "2 least(b0, greatest(b1, 1/2), mean(1*1, 2*b0), ranked(2; b1, 1), between(0, 1/3; 1))")
        self.assertEqual(frozen(Rule(2, ("bid", 0)), 0, HALF), Rule(1, ("fixed", HALF)))
        self.assertEqual(frozen(Rule(2, ("bid", 1)), 0, HALF), ALONE)

    def test_by_chance(self):
        for rng, made in rules(401, 150):
            if made.people > 1:
                bids = numbers(rng, made.people)
                person = rng.randrange(made.people)
                found = frozen(made, person, bids[person])
                self.assertEqual(found.people, made.people - 1)
                self.assertEqual(value(found, without(bids, person)), value(made, bids))

    def test_errors(self):
        for made in (MEAN3, ALONE):
            for wrong in spoiled(made.people - 1) + [made.people, -1, 10 ** 199]:
                self.assertRaises(NoPerson, frozen, made, wrong, None)
            for wrong in spoiled(HALF) + [(2, 4), 0]:
                self.assertRaises(NoNumber, frozen, made, 0, wrong)
        self.assertRaises(NoPeople, frozen, ALONE, 0, HALF)


class TestWidened(unittest.TestCase):
    def test_its_term(self):
        self.assertEqual(rule_text(widened(MEAN2, 3, 2)), "3 mean(3*mean(1*b0, 1*b1), 2*b2)")
        self.assertEqual(rule_text(widened(ALONE, 99, 1)), "2 mean(99*b0, 1*b1)")
        self.assertEqual(widened(Rule(5, ("fixed", HALF)), 1, 99).people, 6)

    def test_by_chance(self):
        for rng, made in rules(402, 80):
            if made.people < 6:
                old, new = rng.randint(1, 99), rng.randint(1, 99)
                bids = numbers(rng, made.people + 1)
                told = (old * naive.value(made, bids[:-1]) + new * naive.Fraction(*bids[-1])) / (old + new)
                self.assertEqual(value(widened(made, old, new), bids), naive.pair(told))

    def test_errors(self):
        for made in (MEAN2, SIX):
            for wrong in spoiled(1) + [0, -1, 100, 10 ** 199, True, HALF]:
                self.assertRaises(NoWeight, widened, made, wrong, 1)
                self.assertRaises(NoWeight, widened, made, 99, wrong)
        for old, new in ((1, 1), (99, 99)):
            with self.assertRaises(TooMany) as caught:
                widened(SIX, old, new)
            self.assertEqual(caught.exception.most, 6)


class TestSplit(unittest.TestCase):
    def test_its_term(self):
        self.assertEqual(rule_text(split(MEAN2, 0)), "3 mean(1*mean(1*b0, 1*b2), 1*b1)")
        self.assertEqual(rule_text(split(MIXED, 1)), "4 least(b0, greatest(mean(1*b1, 1*b3), 1/2), mean(1*b2, 2*b0), "
                                                     "ranked(2; mean(1*b1, 1*b3), b2), between(0, 1/3; b2))")
        self.assertEqual(split(Rule(2, ("bid", 0)), 1), Rule(3, ("bid", 0)))
        self.assertEqual(split(ALONE, 0), MEAN2)

    def test_seventeenth_fact_of_halves(self):
        for rng, made in rules(403, 150):
            if made.people < 6:
                wishes = numbers(rng, made.people)
                person = rng.randrange(made.people)
                found = split(made, person)
                self.assertEqual(found.people, made.people + 1)
                self.assertEqual(outcome(found, (*wishes, wishes[person])), outcome(made, wishes))
                self.assertEqual(value(found, (*wishes, wishes[person])), value(made, wishes))

    def test_errors(self):
        for made in (MEAN2, SIX):
            for wrong in spoiled(1) + [made.people, -1, 10 ** 199]:
                self.assertRaises(NoPerson, split, made, wrong)
        with self.assertRaises(TooMany) as caught:
            split(SIX, 5)
        self.assertEqual(caught.exception.most, 6)


class TestMerged(unittest.TestCase):
    def test_its_term(self):
        self.assertEqual(merged(MEAN2, 0, 1), Rule(1, ("mean", ((1, ("bid", 0)), (1, ("bid", 0))))))
        self.assertEqual(merged(MEAN2, 1, 0), merged(MEAN2, 0, 1))
        self.assertEqual(rule_text(merged(MIXED, 0, 1)), "2 least(b0, greatest(b0, 1/2), mean(1*b1, 2*b0), ranked(2; b0, b1), "
                                                         "between(0, 1/3; b1))")
        self.assertEqual(rule_text(merged(MIXED, 2, 0)), "2 least(b1, greatest(b0, 1/2), mean(1*b1, 2*b1), ranked(2; b0, b1), "
                                                         "between(0, 1/3; b1))")
        self.assertEqual(rule_text(merged(MIXED, 1, 2)), "2 least(b0, greatest(b1, 1/2), mean(1*b1, 2*b0), ranked(2; b1, b1), "
                                                         "between(0, 1/3; b1))")

    def test_seventeenth_fact_of_two_who_wished_the_same(self):
        for rng, made in rules(404, 150):
            if made.people > 1:
                one, other = rng.sample(range(made.people), 2)
                wishes = list(numbers(rng, made.people))
                wishes[other] = wishes[one]
                found = merged(made, one, other)
                self.assertEqual(found.people, made.people - 1)
                self.assertEqual(outcome(found, without(wishes, other)), outcome(made, tuple(wishes)))
                self.assertEqual(value(found, without(wishes, other)), value(made, tuple(wishes)))

    def test_split_and_merged_again(self):
        for _, made in rules(405, 40):
            if made.people < 6:
                for person in range(made.people):
                    again = merged(split(made, person), person, made.people)
                    bids = numbers(chance(person), made.people)
                    self.assertEqual(value(again, bids), value(made, bids))

    def test_errors(self):
        for wrong in spoiled(1) + [3, -1, 10 ** 199]:
            if wrong != 1 or isinstance(wrong, bool):
                self.assertRaises(NoPerson, merged, MEAN3, wrong, 1)
                self.assertRaises(NoPerson, merged, MEAN3, 1, wrong)
        for person in range(3):
            self.assertRaises(NoPerson, merged, MEAN3, person, person)
        for one, other in ((0, 0), (0, 1), (1, 0)):
            self.assertRaises(NoPerson, merged, ALONE, one, other)


def state(house):
    made, wishes = house.standing()
    pulls = tuple(house.pull(person) for person in range(made.people))
    return (made.people, made.term, wishes, house.outcome(), pulls, house.depth())


class TestHouse(unittest.TestCase):
    def test_a_new_one(self):
        house = House(MEAN3, WISHES)
        self.assertEqual(house.standing(), (MEAN3, WISHES))
        self.assertEqual(house.outcome(), HALF)
        self.assertEqual(house.pull(1), ((1, 3), (2, 3)))
        self.assertEqual(house.depth(), 0)

    def test_each_deed(self):
        house = House(MEAN3, WISHES)
        self.assertIsNone(house.wish(0, ONE))
        self.assertEqual(house.standing(), (MEAN3, (ONE, HALF, ONE)))
        self.assertEqual(house.outcome(), (2, 3))
        self.assertIsNone(house.comes((1, 4), 3, 2))
        self.assertEqual(house.standing(), (widened(MEAN3, 3, 2), (ONE, HALF, ONE, (1, 4))))
        self.assertIsNone(house.goes(1))
        self.assertEqual(house.standing(), (frozen(widened(MEAN3, 3, 2), 1, HALF), (ONE, ONE, (1, 4))))
        self.assertIsNone(house.edits(MEAN3))
        self.assertEqual(house.standing(), (MEAN3, (ONE, ONE, (1, 4))))
        self.assertEqual(house.depth(), 4)
        self.assertIsNone(house.back())
        self.assertEqual(house.depth(), 3)

    def test_by_chance(self):
        rng = chance(406)
        for _ in range(25):
            made = rule(rng, depth=2)
            wishes = numbers(rng, made.people)
            house = House(made, wishes)
            seen = []
            for _ in range(25):
                before = state(house)
                seen.append(before)
                deed = rng.choice(("wish", "wish", "comes", "goes", "edits", "back"))
                people = len(wishes)
                person = rng.randrange(people)
                if deed == "back":
                    seen.pop()
                    if seen:
                        house.back()
                        self.assertEqual(state(house), seen.pop())
                        made, wishes = house.standing()
                    else:
                        self.assertRaises(NothingDone, house.back)
                    continue
                if deed == "wish":
                    wishes = (*wishes[:person], number(rng), *wishes[person + 1:])
                    house.wish(person, wishes[person])
                elif deed == "comes" and people < 6 and depth(made) < 20:
                    made, wishes = widened(made, 2, 3), (*wishes, number(rng))
                    house.comes(wishes[-1], 2, 3)
                elif deed == "goes" and people > 1:
                    made, wishes = frozen(made, person, wishes[person]), without(wishes, person)
                    house.goes(person)
                elif deed == "edits":
                    made = rule(rng, people, 2)
                    house.edits(made)
                else:
                    seen.pop()
                    continue
                self.assertEqual(house.standing(), (made, wishes))
                self.assertEqual(house.outcome(), outcome(made, wishes))
                for one in range(len(wishes)):
                    ends = tuple(outcome(made, (*wishes[:one], end, *wishes[one + 1:])) for end in (ZERO, ONE))
                    self.assertEqual(house.pull(one), ends)
                self.assertEqual(house.depth(), len(seen))

    def test_it_grows_to_six_and_shrinks_to_one(self):
        house = House(ALONE, (HALF,))
        seen = []
        for person in range(1, 6):
            seen.append(state(house))
            house.comes((person, 7), person, 1)
            self.assertEqual(house.standing()[0].people, person + 1)
        before = state(house)
        with self.assertRaises(TooMany) as caught:
            house.comes(HALF, 1, 1)
        self.assertEqual(caught.exception.most, 6)
        self.assertEqual(state(house), before)
        for person in (3, 0, 3, 1, 0):
            seen.append(state(house))
            house.goes(person)
        self.assertEqual(house.standing()[0].people, 1)
        self.assertRaises(NoPeople, house.goes, 0)
        while seen:
            house.back()
            self.assertEqual(state(house), seen.pop())
        self.assertRaises(NothingDone, house.back)
        self.assertEqual(state(house), state(House(ALONE, (HALF,))))

    def test_back_takes_back_each_deed_even_one_that_changed_nothing(self):
        house = House(MEAN2, (HALF, ONE))
        house.wish(0, HALF)
        house.edits(MEAN2)
        self.assertEqual(house.depth(), 2)
        house.back()
        house.wish(1, ZERO)
        house.back()
        self.assertEqual(house.depth(), 1)
        house.back()
        self.assertRaises(NothingDone, house.back)

    def test_houses_are_apart(self):
        one, other = House(MEAN2, (HALF, ONE)), House(MEAN2, (HALF, ONE))
        one.wish(0, ONE)
        self.assertEqual(other.standing(), (MEAN2, (HALF, ONE)))
        for thing in (other, MEAN2, None, (MEAN2, (HALF, ONE)), "house"):
            self.assertFalse(one == thing)

    def test_as_deep_as_it_may_be(self):
        house = House(ALONE, (HALF,))
        for at in range(59):
            house.comes((at, 59) if at else ZERO, 1, 2)
            house.goes(1 if at % 2 else 0)
        self.assertEqual(depth(house.standing()[0]), 60)
        self.assertEqual(house.outcome(), outcome(*house.standing()))
        self.assertEqual(house.depth(), 118)
        house.edits(unchecked(1, nested(("bid", 0), 59, lambda term: ("least", (term,)))))
        self.assertEqual(house.pull(0), (ZERO, ONE))


class TestCopy(unittest.TestCase):
    def test_goes_on_apart_and_can_go_back_likewise(self):
        house = House(MEAN2, (HALF, ONE))
        house.wish(0, ZERO)
        house.comes((1, 3), 1, 1)
        other = house.copy()
        self.assertIs(type(other), House)
        self.assertEqual(state(other), state(house))
        other.goes(0)
        house.back()
        house.back()
        house.edits(Rule(2, ("bid", 0)))
        self.assertEqual(other.depth(), 3)
        self.assertEqual(other.standing()[1], (ONE, (1, 3)))
        other.back()
        other.back()
        self.assertEqual(other.standing(), (MEAN2, (ZERO, ONE)))
        other.back()
        self.assertEqual(other.standing(), (MEAN2, (HALF, ONE)))
        self.assertRaises(NothingDone, other.back)
        self.assertEqual(house.standing(), (Rule(2, ("bid", 0)), (HALF, ONE)))
        self.assertEqual(house.depth(), 1)

    def test_of_new_ones_and_of_copies(self):
        other = House(MEAN2, (HALF, ONE)).copy().copy()
        self.assertEqual(state(other), state(House(MEAN2, (HALF, ONE))))
        self.assertRaises(NothingDone, other.back)


class TestTrying(unittest.TestCase):
    def test_returns_what_the_action_returned_and_puts_all_back(self):
        house = House(MEAN2, (HALF, ONE))
        house.wish(0, ZERO)
        before = state(house)
        asked = []

        def action(given):
            asked.append(given)
            given.comes(ONE, 1, 1)
            given.goes(0)
            return [given.outcome()]

        other = House(*house.standing())
        other.comes(ONE, 1, 1)
        other.goes(0)
        self.assertEqual(house.trying(action), [other.outcome()])
        self.assertEqual(len(asked), 1)
        self.assertIs(asked[0], house)
        self.assertEqual(state(house), before)
        self.assertIsNone(house.trying(lambda given: given.wish(0, ONE)))
        self.assertEqual(state(house), before)

    def test_also_if_the_action_took_more_back_than_it_did(self):
        house = House(MEAN2, (HALF, ONE))
        house.wish(0, ZERO)
        house.comes(HALF, 2, 3)
        before = state(house)

        def action(given):
            given.goes(2)
            for _ in range(3):
                given.back()
            given.edits(Rule(2, ("bid", 1)))
            return given.depth()

        self.assertEqual(house.trying(action), 1)
        self.assertEqual(state(house), before)
        house.back()
        house.back()
        self.assertEqual(house.standing(), (MEAN2, (HALF, ONE)))

    def test_also_if_an_error_is_raised_which_goes_on(self):
        for error in (KeyError("x"), BidError(), NothingDone(), RuntimeError("x"), StopIteration(), KeyboardInterrupt()):
            house = House(MEAN2, (HALF, ONE))
            house.wish(1, ZERO)
            before = state(house)

            def action(given):
                given.back()
                given.comes(HALF, 1, 1)
                given.goes(0)
                raise error
            with self.assertRaises(type(error)) as caught:
                house.trying(action)
            self.assertIs(caught.exception, error)
            self.assertEqual(state(house), before)

    def test_its_own_errors_within(self):
        house = House(MEAN2, (HALF, ONE))
        self.assertRaises(NothingDone, house.trying, lambda given: given.back())
        self.assertRaises(NoPerson, house.trying, lambda given: (given.goes(0), given.goes(1)))
        self.assertEqual(state(house), state(House(MEAN2, (HALF, ONE))))

    def test_one_within_another(self):
        house = House(MEAN2, (HALF, ONE))

        def inner(given):
            given.back()
            given.goes(1)
            return given.standing()[1]

        def action(given):
            given.wish(0, ONE)
            told = given.trying(inner)
            return (told, given.standing()[1], given.copy())

        told, wishes, other = house.trying(action)
        self.assertEqual((told, wishes), ((HALF,), (ONE, ONE)))
        self.assertEqual(house.standing(), (MEAN2, (HALF, ONE)))
        self.assertEqual((other.standing()[1], other.depth()), ((ONE, ONE), 1))


class TestErrors(unittest.TestCase):
    def unchanged(self, error, method, *given):
        """The call raises this error and changes nothing."""
        for house in (House(MEAN3, WISHES), House(MEAN2, (HALF, ZERO))):
            if house.standing()[0].people == 2:
                house.comes(ONE, 1, 1)
            before = state(house)
            self.assertRaises(error, getattr(house, method), *given)
            self.assertEqual(state(house), before)

    def test_no_wishes(self):
        for wrong in spoiled(WISHES) + [WISHES[:2], WISHES * 2, ()]:
            self.assertRaises(NoWishes, House, MEAN3, wrong)

    def test_wish(self):
        for wrong in spoiled(1) + [3, -1]:
            self.unchanged(NoPerson, "wish", wrong, None)
        for wrong in spoiled(HALF) + [(2, 4), 1]:
            self.unchanged(NoNumber, "wish", 2, wrong)

    def test_comes(self):
        for wrong in spoiled(HALF) + [(2, 4), 1]:
            self.unchanged(NoNumber, "comes", wrong, None, None)
        for wrong in spoiled(1) + [0, -1, 100, True]:
            self.unchanged(NoWeight, "comes", HALF, wrong, 1)
            self.unchanged(NoWeight, "comes", HALF, 1, wrong)
        full = House(SIX, (HALF,) * 6)
        self.assertRaises(NoNumber, full.comes, None, None, None)
        self.assertRaises(NoWeight, full.comes, HALF, 1, 100)
        self.assertRaises(TooMany, full.comes, HALF, 1, 99)
        self.assertEqual(state(full), state(House(SIX, (HALF,) * 6)))

    def test_goes_pull_edits_and_back(self):
        for wrong in spoiled(1) + [3, -1]:
            self.unchanged(NoPerson, "goes", wrong)
            self.unchanged(NoPerson, "pull", wrong)
        for other in (MEAN2, SIX, ALONE):
            self.unchanged(OtherPeople, "edits", other)
        house = House(ALONE, (HALF,))
        for wrong in ODD:
            self.assertRaises(NoPerson, house.goes, wrong)
        self.assertRaises(NoPeople, house.goes, 0)
        self.assertRaises(NothingDone, house.back)
        self.assertEqual(state(house), state(House(ALONE, (HALF,))))


if __name__ == "__main__":
    unittest.main()
