"""18.1 and 18.2: several rules, one row of wishes."""

import unittest
from fractions import Fraction
from itertools import product

from cornerbids.errors import NoLog, NoPerson, NoWishes, TooMany
from cornerbids.logs import fits, fitting, many_places, may_stand, places
from cornerbids.outcomes import outcome
from cornerbids.rules import Rule
from cornerbids.tables import rule_of
from tests import naive
from tests.things import MEAN2, MEAN3, ODD, chance, deep_term, number, numbers, rule, spoiled, table, unchecked

ZERO, HALF, ONE = (0, 1), (1, 2), (1, 1)
QUARTER, THIRD = (1, 4), (1, 3)
LEAST = Rule(2, ("least", (("bid", 0), ("bid", 1))))
GREATEST = Rule(2, ("greatest", (("bid", 0), ("bid", 1))))
FIRST = Rule(2, ("bid", 0))


def places_of(log, wishes):
    told = sorted({Fraction(*number) for _, number in log})
    found = []
    for wish in naive.fractions_of(wishes):
        below = sum(number < wish for number in told)
        found.append(2 * below + (wish in told))
    return tuple(found)


def stands(log):
    """A wish for each place that a wish can have."""
    told = sorted({Fraction(*number) for _, number in log})
    marks = [Fraction(0)] + told + [Fraction(1)]
    found = set(told)
    for low, high in zip(marks, marks[1:]):
        found.add((low + high) / 2)
    if told[0] > 0:
        found.add(Fraction(0))
    return sorted({places_of(log, (naive.pair(wish),)): naive.pair(wish) for wish in found}.values())


def fitting_places(log):
    """All tuples of places of wishes that fit, by trying all."""
    people = log[0][0].people
    found = set()
    for wishes in product(stands(log), repeat=people):
        if all(outcome(made, wishes) == told for made, told in log):
            found.add(places_of(log, wishes))
    return found


def logs_by_chance(seed, many, most=3):
    """Logs that some wishes fit, most of them, and such as none fit."""
    rng = chance(seed)
    for _ in range(many):
        people = rng.randint(1, most)
        wishes = numbers(rng, people, 3)
        log = []
        for _ in range(rng.randint(1, 4 if people < 3 else 3)):
            made = rng.choice((rule(rng, people), rule_of(people, table(rng, people, 3))))
            log.append((made, outcome(made, wishes) if rng.random() < 0.8 else number(rng)))
        yield rng, tuple(log), wishes


class TestFits(unittest.TestCase):
    def test_ordinary_ones(self):
        log = ((MEAN2, HALF), (LEAST, THIRD))
        self.assertIs(fits(log, (THIRD, ONE)), True)
        self.assertIs(fits(log, (ONE, THIRD)), True)
        self.assertIs(fits(log, (HALF, HALF)), False)
        self.assertIs(fits(log, (THIRD, THIRD)), False)
        self.assertEqual(places(log, (THIRD, ONE)), (1, 4))
        self.assertEqual(places(log, (ZERO, HALF)), (0, 3))
        self.assertEqual(places(log, ((2, 5), (3, 5))), (2, 4))

    def test_by_chance(self):
        seen = {True: 0, False: 0}
        for rng, log, wishes in logs_by_chance(341, 150):
            for row in (wishes, numbers(rng, len(wishes), 3), numbers(rng, len(wishes))):
                right = all(naive.outcome(made, row) == Fraction(*told) for made, told in log)
                self.assertIs(fits(log, row), right)
                self.assertEqual(places(log, row), places_of(log, row))
                seen[right] += 1
        self.assertGreater(min(seen.values()), 50)

    def test_whether_wishes_fit_hangs_on_their_places_alone(self):
        for rng, log, wishes in logs_by_chance(342, 60):
            told = {}
            for _ in range(30):
                row = numbers(rng, len(wishes), 4)
                right = fits(log, row)
                self.assertIs(told.setdefault(places(log, row), right), right)

    def test_one_number_several_times(self):
        log = ((LEAST, HALF), (GREATEST, HALF), (MEAN2, HALF))
        self.assertEqual(places(log, (HALF, ONE)), (1, 2))
        self.assertIs(fits(log, (HALF, HALF)), True)
        self.assertEqual(fitting(log), (HALF, HALF))
        self.assertEqual(many_places(log), 1)
        self.assertEqual(may_stand(log, 0), [1])


class TestFitting(unittest.TestCase):
    def check(self, log, right):
        people = log[0][0].people
        found = fitting(log)
        if right:
            self.assertIs(fits(log, found), True)
        else:
            self.assertIsNone(found)
        self.assertEqual(many_places(log), len(right))
        for person in range(people):
            self.assertEqual(may_stand(log, person), sorted({row[person] for row in right}))

    def test_ordinary_ones(self):
        self.assertEqual(may_stand(((MEAN2, QUARTER),), 0), [0, 1])
        self.assertEqual(may_stand(((FIRST, QUARTER),), 0), [1])
        self.assertEqual(may_stand(((FIRST, QUARTER),), 1), [0, 1, 2])
        self.assertEqual(many_places(((FIRST, QUARTER),)), 3)
        self.assertEqual(many_places(((MEAN2, QUARTER),)), 3)
        self.assertEqual(fitting(((LEAST, QUARTER), (GREATEST, HALF), (FIRST, HALF))), (HALF, QUARTER))
        self.assertEqual(fitting(((LEAST, HALF), (GREATEST, ONE), (FIRST, HALF))), (HALF, ONE))

    def test_logs_that_no_wishes_fit(self):
        for log in (((LEAST, HALF), (GREATEST, QUARTER)), ((MEAN2, HALF), (MEAN2, THIRD)), ((Rule(2, ("fixed", HALF)), ONE),),
                    ((FIRST, ZERO), (FIRST, ONE)), ((FIRST, HALF), (LEAST, THIRD), (GREATEST, (3, 4)))):
            self.assertIsNone(fitting(log))
            self.assertEqual(many_places(log), 0)
            self.assertEqual(may_stand(log, 0), [])
            self.assertEqual(may_stand(log, 1), [])

    def test_numbers_0_and_1(self):
        # Nobody wishes less than 0 or more than 1.
        self.assertEqual(may_stand(((FIRST, ZERO),), 1), [1, 2])
        self.assertEqual(may_stand(((FIRST, ONE),), 1), [0, 1])
        self.assertEqual(may_stand(((FIRST, ZERO), (Rule(2, ("bid", 1)), ONE)), 1), [3])
        self.assertEqual(may_stand(((FIRST, ZERO), (Rule(2, ("fixed", ONE)), ONE)), 1), [1, 2, 3])
        self.assertEqual(many_places(((FIRST, ZERO), (Rule(2, ("fixed", ONE)), ONE))), 3)
        self.assertEqual(fitting(((FIRST, ZERO),))[0], ZERO)
        self.assertEqual(fitting(((LEAST, ONE),)), (ONE, ONE))
        for log in (((MEAN3, ZERO), (MEAN3, ONE)), ((MEAN3, ZERO), (Rule(3, ("fixed", ONE)), ONE), (Rule(3, ("bid", 2)), HALF))):
            self.check(log, fitting_places(log))

    def test_by_chance(self):
        seen = {True: 0, False: 0}
        for _, log, _ in logs_by_chance(343, 120):
            right = fitting_places(log)
            self.check(log, right)
            seen[bool(right)] += 1
        self.assertGreater(min(seen.values()), 20)

    def test_wishes_that_are_there_fit(self):
        for rng, _, _ in logs_by_chance(344, 25):
            people = rng.randint(4, 6)
            wishes = numbers(rng, people)
            made = [rule(rng, people) for _ in range(4)]
            log = tuple((one, outcome(one, wishes)) for one in made)
            self.assertIs(fits(log, wishes), True)
            self.assertIs(fits(log, fitting(log)), True)
            for person, place in enumerate(places(log, wishes)):
                self.assertIn(place, may_stand(log, person))

    def test_six_people_and_four_rules(self):
        rows = [Rule(6, ("ranked", k, tuple(("bid", person) for person in range(6)))) for k in (1, 3, 4, 6)]
        log = tuple(zip(rows, (ONE, (2, 3), HALF, (1, 5))))
        found = fitting(log)
        self.assertEqual(sorted(naive.fractions_of(found), reverse=True)[::5], [1, Fraction(1, 5)])
        self.assertIs(fits(log, found), True)
        # The least wish is 1/5, the greatest 1, and none stands between 1/2 and 2/3.
        self.assertEqual(may_stand(log, 3), [1, 2, 3, 5, 6, 7])
        self.assertRaises(TooMany, many_places, log)

    def test_each_list_is_new(self):
        log = ((MEAN2, QUARTER),)
        may_stand(log, 0).append(None)
        self.assertEqual(may_stand(log, 0), [0, 1])

    def test_deep_rules(self):
        made = unchecked(2, deep_term(60))
        log = ((made, outcome(made, (HALF, ONE))),)
        self.assertIs(fits(log, (HALF, ONE)), True)
        self.assertIs(fits(log, fitting(log)), True)


class TestErrors(unittest.TestCase):
    def wrong_logs(self):
        right = ((MEAN2, HALF), (LEAST, THIRD))
        found = [thing for thing in ODD] + [list(right), (), ((),), right * 2 + right[:1], ((MEAN2, HALF), (MEAN3, HALF)), MEAN2,
                                            (MEAN2, HALF), ((MEAN2,),), ((MEAN2, HALF, HALF),), ([MEAN2, HALF],), ((HALF, MEAN2),),
                                            {MEAN2.people: HALF}, ((MEAN2.term, HALF),), ((None, HALF),), (right, right)]
        for wrong in spoiled(HALF) + [(2, 4), 0, 1, (3, 2)]:
            found.append(((MEAN2, wrong),))
            found.append(((MEAN2, HALF), (LEAST, wrong)))
        for wrong in ODD:
            if not isinstance(wrong, Rule):
                found.append(((wrong, HALF),))
                found.append(((MEAN2, HALF), (wrong, HALF)))
            found.append(((MEAN2, HALF), wrong))
        return found

    def test_no_log_comes_first(self):
        for wrong in self.wrong_logs():
            for function, more in ((fits, (None,)), (fitting, ()), (places, (None,)), (may_stand, (None,)), (many_places, ())):
                self.assertRaises(NoLog, function, wrong, *more)

    def test_logs_of_one_rule_and_of_four(self):
        for log in (((MEAN2, HALF),), ((MEAN2, HALF),) * 4, tuple(zip((MEAN2, LEAST, GREATEST, FIRST), (HALF, ZERO, ONE, ZERO)))):
            self.assertIs(fits(log, fitting(log)), True)
        self.assertRaises(NoLog, fitting, ((MEAN2, HALF),) * 5)

    def test_no_wishes_and_no_person(self):
        log = ((MEAN2, HALF), (LEAST, THIRD))
        for wrong in spoiled((ZERO, HALF)) + [(ZERO,), (ZERO,) * 3, ()]:
            self.assertRaises(NoWishes, fits, log, wrong)
            self.assertRaises(NoWishes, places, log, wrong)
        for wrong in spoiled(1) + [2, -1, 10 ** 199]:
            self.assertRaises(NoPerson, may_stand, log, wrong)

    def test_too_many(self):
        def log_of(people, *told):
            return tuple((Rule(people, ("fixed", HALF)), number) for number in told)

        few = [(log_of(6, HALF, QUARTER), 15625), (log_of(5, HALF, QUARTER, THIRD), 16807), (log_of(4, HALF, QUARTER, THIRD, (3, 4)), 6561),
               (log_of(6, ZERO, HALF, ONE), 15625), (log_of(6, ZERO, ONE), 729), (log_of(6, HALF, HALF, QUARTER, QUARTER), 15625),
               (log_of(5, ZERO, HALF, QUARTER, ONE), 16807)]
        for log, places_in_all in few:
            self.assertLessEqual(places_in_all, 20000)
            self.assertEqual(many_places(log), 0)
        for log in (log_of(6, HALF, QUARTER, THIRD), log_of(6, ZERO, QUARTER, THIRD), log_of(5, ZERO, QUARTER, THIRD, HALF),
                    log_of(5, ONE, QUARTER, THIRD, HALF), log_of(6, ONE, HALF, QUARTER, ZERO), log_of(5, QUARTER, THIRD, HALF, (3, 4))):
            with self.assertRaises(TooMany) as caught:
                many_places(log)
            self.assertEqual(caught.exception.most, 20000)
            # It is of many_places alone.
            self.assertIsNone(fitting(log))
            self.assertEqual(may_stand(log, 0), [])


if __name__ == "__main__":
    unittest.main()
