"""0.4 and 1.3 over the whole program: all holds for mirrored rules with mirrored numbers."""

import unittest
from fractions import Fraction

from cornerbids import (chances, changes, comparing, corners, drawing, groups, holders, honest, houses, lines, logs, outcomes, plain,
                        plays, quotas, ranges, rests, stretches, tables, talks, tidy)
from cornerbids.rules import Rule, mirrored, value
from cornerbids.sittings import Sitting
from tests.things import chance, number, numbers, rule, rules, table
from tests.things import stretches as stretches_by_chance
from tests.test_plays import schedule_of
from tests.test_talks import plain_rules


def flip(told):
    """(1, 1) less a number."""
    return (told[1] - told[0], told[1])


def flips(row):
    return tuple(flip(told) for told in row)


def turned(pair):
    """The mirrored pair of a least and a greatest number, or None."""
    return None if pair is None else (flip(pair[1]), flip(pair[0]))


def turned_all(pairs):
    return tuple(turned(pair) for pair in pairs)


def others(people, lot):
    return tuple(person for person in range(people) if person not in lot)


def line_seen(bent):
    """A line seen from the other end, both ways."""
    return tuple((flip(place), flip(height)) for place, height in reversed(bent))


def flipped_table(people, given):
    return {lot: flip(given[others(people, lot)]) for lot in given}


class TestOneRule(unittest.TestCase):
    def test_numbers_lots_and_lines(self):
        for rng, made in rules(411, 80):
            glass = mirrored(made)
            wishes, bids = numbers(rng, made.people), numbers(rng, made.people)
            self.assertEqual(value(glass, flips(bids)), flip(value(made, bids)))
            told = corners.corners(made)
            self.assertEqual(corners.corners(glass), flipped_table(made.people, told))
            self.assertEqual(outcomes.outcome(glass, flips(wishes)), flip(outcomes.outcome(made, wishes)))
            self.assertEqual(outcomes.sides(glass, flips(wishes)), outcomes.sides(made, wishes)[::-1])
            self.assertEqual(outcomes.holding(glass, flips(wishes)), outcomes.pressing(made, wishes))
            self.assertEqual(outcomes.pressing(glass, flips(wishes)), outcomes.holding(made, wishes))
            later = tuple(sorted(rng.sample(range(made.people), rng.randint(0, made.people))))
            self.assertEqual(outcomes.outcome_behind(glass, flips(wishes), flips(bids), later),
                             flip(outcomes.outcome_behind(made, wishes, bids, later)))
            bent = lines.line(made, bids, 0)
            self.assertEqual(lines.line(glass, flips(bids), 0), line_seen(bent))
            self.assertEqual(lines.foreseen_line(glass, flips(wishes), flips(bids), 0, tuple(range(1, made.people))),
                             line_seen(lines.foreseen_line(made, wishes, bids, 0, tuple(range(1, made.people)))))
            at = number(rng)
            self.assertEqual(lines.told_at(line_seen(bent), flip(at)), flip(lines.told_at(bent, at)))
            self.assertEqual(lines.bids_for(line_seen(bent), flip(at)), turned(lines.bids_for(bent, at)))

    def test_plays(self):
        for rng, made in rules(412, 40):
            glass = mirrored(made)
            wishes, schedule = numbers(rng, made.people), schedule_of(rng, made.people, 8)
            play = numbers(rng, rng.randint(0, len(schedule)))
            self.assertEqual(plays.foreseen(glass, flips(wishes), schedule, flips(play)), flip(plays.foreseen(made, wishes, schedule, play)))
            if len(play) < len(schedule):
                self.assertEqual(plays.best_bids(glass, flips(wishes), schedule, flips(play)),
                                 turned(plays.best_bids(made, wishes, schedule, play)))
            best = plays.best_play(made, wishes, schedule)
            self.assertIs(plays.is_best(glass, flips(wishes), schedule, flips(best)), True)
            self.assertIs(plays.is_best(made, wishes, schedule, flips(plays.best_play(glass, flips(wishes), schedule))), True)
            whole = numbers(rng, len(schedule))
            self.assertIs(plays.is_best(glass, flips(wishes), schedule, flips(whole)), plays.is_best(made, wishes, schedule, whole))
            one, other = Sitting(made, wishes, schedule), Sitting(glass, flips(wishes), schedule)
            for bid in whole:
                self.assertEqual(other.best(), turned(one.best()))
                one.bid(bid)
                other.bid(flip(bid))
                self.assertEqual(other.foreseen(), flip(one.foreseen()))
            self.assertEqual(other.told(), flip(one.told()))

    def test_rests_and_moves(self):
        for rng, made in rules(413, 60):
            glass = mirrored(made)
            wishes, bids = numbers(rng, made.people), numbers(rng, made.people)
            order = schedule_of(rng, made.people, 8)
            for given in (bids, rests.rest(made, wishes), flips(rests.rest(glass, flips(wishes)))):
                for judge in (rests.is_rest, rests.is_single_rest):
                    self.assertIs(judge(glass, flips(wishes), flips(given)), judge(made, wishes, given))
                self.assertEqual(rests.movers(glass, flips(wishes), flips(given)), rests.movers(made, wishes, given))
                self.assertEqual(rests.moving_lots(glass, flips(wishes), flips(given)), rests.moving_lots(made, wishes, given)[::-1])
            for person in range(made.people):
                self.assertEqual(talks.move(glass, flips(wishes), flips(bids), person), flips(talks.move(made, wishes, bids, person)))
                self.assertEqual(honest.best_for(glass, flips(bids), person, flip(wishes[0])),
                                 turned(honest.best_for(made, bids, person, wishes[0])))
                self.assertIs(honest.honest_at(glass, flips(bids), person), honest.honest_at(made, bids, person))
                found = honest.lie(made, bids, person)
                if found is not None:
                    self.assertIs(honest.is_lie(glass, flips(bids), person, flips(found)), True)
                thing = numbers(rng, 2)
                self.assertIs(honest.is_lie(glass, flips(bids), person, flips(thing)), honest.is_lie(made, bids, person, thing))
            self.assertEqual(talks.stayers(glass, flips(wishes), flips(bids)), talks.stayers(made, wishes, bids))
            word, last, many = talks.talk(made, wishes, bids, order, 30)
            self.assertEqual(talks.talk(glass, flips(wishes), flips(bids), order, 30), (word, flips(last), many))

    def test_plain_rules(self):
        for rng, made in plain_rules(414, 30):
            glass = mirrored(made)
            wishes, bids, order = numbers(rng, made.people), numbers(rng, made.people), schedule_of(rng, made.people, 8)
            self.assertIs(plain.is_plain(glass), True)
            parts, last = plain.weights(made)
            left = 1 - sum(Fraction(*part) for part in (*parts, last))
            self.assertEqual(plain.weights(glass), (parts, (left.numerator, left.denominator)))
            self.assertEqual(plain.turn(glass, flips(wishes), flips(bids), 0), flips(plain.turn(made, wishes, bids, 0)))
            quiet, many = plain.run(made, wishes, bids, order)
            self.assertEqual(plain.run(glass, flips(wishes), flips(bids), order), (flips(quiet), many))
            self.assertIs(plain.is_quiet(glass, flips(wishes), flips(quiet)), True)
        for _, made in plain_rules(415, 20):
            bare = Rule(made.people, ("mean", tuple(part for part in made.term[1] if part[1][0] == "bid")))
            self.assertEqual(drawing.most_drawn(mirrored(bare)), drawing.most_drawn(bare))
            self.assertIs(drawing.is_drawing(mirrored(bare), flips(drawing.drawing(bare))), True)

    def test_stretches_and_ranges(self):
        for rng, made in rules(416, 60):
            glass = mirrored(made)
            wishes, known = numbers(rng, made.people), stretches_by_chance(rng, made.people)
            told = number(rng)
            self.assertEqual(stretches.around(flips(wishes), told), turned_all(stretches.around(wishes, told)))
            self.assertEqual(stretches.outcome_within(glass, flips(wishes), turned_all(known)),
                             flip(stretches.outcome_within(made, wishes, known)))
            for bids in (stretches.rest_within(made, wishes, known), tuple(low for low, _ in known)):
                self.assertIs(stretches.is_rest_within(glass, flips(wishes), turned_all(known), flips(bids)),
                              stretches.is_rest_within(made, wishes, known, bids))
            self.assertEqual(ranges.range_of(glass, turned_all(known)), turned(ranges.range_of(made, known)))
            found = ranges.wishes_with(made, known, told)
            self.assertIs(ranges.wishes_with(glass, turned_all(known), flip(told)) is None, found is None)
            self.assertEqual(ranges.wish_bounds(glass, 0, flip(told)), turned(ranges.wish_bounds(made, 0, told)))

    def test_chances_holders_and_logs(self):
        for rng, made in rules(417, 50):
            glass = mirrored(made)
            choices = tuple(numbers(rng, rng.randint(1, 3)) for _ in range(made.people))
            seen = tuple(flips(row) for row in choices)
            told = chances.chances(made, choices)
            self.assertEqual(chances.chances(glass, seen), {flip(one): told[one] for one in told})
            self.assertEqual(chances.mean_outcome(glass, seen), flip(chances.mean_outcome(made, choices)))
            self.assertEqual(chances.likely_own(glass, seen, 0), chances.likely_own(made, choices, 0))
            levels = holders.levels(made)
            self.assertEqual(holders.levels(glass), [flip(one) for one in reversed(levels)])
            # A number that is no corner is held on the one side just if it is blocked on the other one.
            wanted = (rng.randint(1, 96), 97)
            self.assertNotIn(wanted, levels)
            self.assertEqual(holders.least_lots(glass, flip(wanted)), holders.least_blocks(made, wanted))
            self.assertEqual(holders.least_blocks(glass, flip(wanted)), holders.least_lots(made, wanted))
            self.assertEqual(holders.swings(glass, flip(wanted)), holders.swings(made, wanted))
            self.assertEqual(holders.alone(glass, flip(wanted)), holders.alone(made, wanted))
            self.assertIs(quotas.scale(glass, flip(wanted)) is None, quotas.scale(made, wanted) is None)
            exchange = quotas.trade(made, wanted)
            if exchange is not None:
                held, lost = [tuple(others(made.people, lot) for lot in lots) for lots in exchange]
                self.assertIs(quotas.is_trade(glass, flip(wanted), (lost, held)), True)

    def test_logs(self):
        rng = chance(418)
        for _ in range(40):
            people = rng.randint(1, 3)
            wishes = numbers(rng, people)
            row = [rule(rng, people) for _ in range(rng.randint(1, 4))]
            log = tuple((made, outcomes.outcome(made, wishes)) for made in row)
            seen = tuple((mirrored(made), flip(told)) for made, told in log)
            self.assertIs(logs.fits(seen, flips(wishes)), True)
            top = 2 * len({told for _, told in log})
            self.assertEqual(logs.places(seen, flips(wishes)), tuple(top - place for place in logs.places(log, wishes)))
            self.assertIs(logs.fits(seen, flips(logs.fitting(log))), True)
            for person in range(people):
                self.assertEqual(logs.may_stand(seen, person), [top - place for place in reversed(logs.may_stand(log, person))])
            if (top + 1) ** people <= 20000:
                self.assertEqual(logs.many_places(seen), logs.many_places(log))

    def test_tidy_and_houses(self):
        for rng, made in rules(419, 60):
            glass = mirrored(made)
            self.assertEqual(mirrored(glass), made)
            self.assertEqual(tidy.tidied(glass), mirrored(tidy.tidied(made)))
            self.assertEqual((tidy.size(glass), tidy.depth(glass)), (tidy.size(made), tidy.depth(made)))
            swapped = {"least": "greatest", "greatest": "least"}
            self.assertEqual(tidy.words_of(glass), {swapped.get(word, word): many for word, many in tidy.words_of(made).items()})
            wishes, told = numbers(rng, made.people), number(rng)
            house, other = houses.House(made, wishes), houses.House(glass, flips(wishes))
            if made.people < 6:
                self.assertEqual(houses.widened(glass, 2, 3), mirrored(houses.widened(made, 2, 3)))
                self.assertEqual(houses.split(glass, 0), mirrored(houses.split(made, 0)))
                house.comes(told, 2, 3)
                other.comes(flip(told), 2, 3)
                self.assertEqual(other.outcome(), flip(house.outcome()))
            if made.people > 1:
                self.assertEqual(houses.frozen(glass, 1, flip(told)), mirrored(houses.frozen(made, 1, told)))
                self.assertEqual(houses.merged(glass, 0, 1), mirrored(houses.merged(made, 0, 1)))
                house.goes(0)
                other.goes(0)
            self.assertEqual(other.standing(), (mirrored(house.standing()[0]), flips(house.standing()[1])))
            self.assertEqual(other.pull(0), turned(house.pull(0)))


class TestSeveralRules(unittest.TestCase):
    def test_compared_and_changed(self):
        for rng, one in rules(421, 60):
            other = rule(rng, one.people)
            wishes = numbers(rng, one.people)
            seen = (mirrored(one), mirrored(other))
            self.assertIs(comparing.alike(*seen), comparing.alike(one, other))
            self.assertIs(comparing.parting(*seen) is None, comparing.parting(one, other) is None)
            self.assertIs(comparing.never_less(*seen), comparing.never_less(other, one))
            self.assertEqual(value(comparing.cousin(seen[0]), flips(wishes)), flip(value(comparing.cousin(one), wishes)))
            self.assertEqual(changes.gainers(*seen, flips(wishes)), changes.gainers(one, other, wishes))
            self.assertIs(changes.all_gain(*seen) is None, changes.all_gain(one, other) is None)
            self.assertIs(changes.is_all_gain(*seen, flips(wishes)), changes.is_all_gain(one, other, wishes))
            row = [one, other, rule(rng, one.people), comparing.cousin(one)]
            glass = [mirrored(made) for made in row]
            for function in (changes.nearest_rule, changes.fairest_rule, changes.beaten_by, changes.unbeaten, changes.duels):
                self.assertEqual(function(glass, flips(wishes)), function(row, wishes))
            self.assertEqual(changes.best_number(glass, flips(wishes)), flip(changes.best_number(row, wishes)))
            self.assertEqual(changes.outcomes(glass, flips(wishes)), [flip(told) for told in changes.outcomes(row, wishes)])

    def test_groups(self):
        rng = chance(422)
        for _ in range(40):
            sizes = [rng.randint(1, 2) for _ in range(rng.randint(1, 3))]
            outer, inners = rule(rng, len(sizes)), tuple(rule(rng, size, 2) for size in sizes)
            seen = (mirrored(outer), tuple(mirrored(inner) for inner in inners))
            wishes = numbers(rng, sum(sizes))
            self.assertEqual(groups.composed(*seen), mirrored(groups.composed(outer, inners)))
            self.assertEqual(groups.groups_first(*seen, flips(wishes)), flip(groups.groups_first(outer, inners, wishes)))
            self.assertIs(groups.groups_parting(*seen) is None, groups.groups_parting(outer, inners) is None)

    def test_tables(self):
        rng = chance(423)
        for _ in range(60):
            people = rng.randint(1, 4)
            given = table(rng, people, 3)
            seen = flipped_table(people, given)
            self.assertIs(tables.is_table(people, seen), True)
            self.assertEqual(corners.corners(tables.rule_of(people, seen)), seen)
            self.assertEqual(corners.corners(mirrored(tables.rule_of(people, given))), seen)
            self.assertEqual(tables.idle(people, seen), tables.idle(people, given))
            counts = tables.by_counts(people, given)
            self.assertEqual(tables.by_counts(people, seen), None if counts is None else flips(counts[::-1]))
            self.assertIs(tables.weights_of(people, seen) is None, tables.weights_of(people, given) is None)
            self.assertIs(tables.bar_to_counts(people, seen) is None, counts is not None)


if __name__ == "__main__":
    unittest.main()
