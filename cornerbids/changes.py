"""A rule changed: who gains by it, and which of several rules is nearest, fairest or unbeaten."""

from cornerbids.amounts import ONE, ZERO, apart, greater, is_less, plus
from cornerbids.checks import are_numbers, need_wishes
from cornerbids.comparing import need_as_many
from cornerbids.corners import all_lots, corner_of
from cornerbids.errors import NoRules
from cornerbids.outcomes import outcome_of
from cornerbids.rules import Rule

MOST_RULES = 10


def gainers(one, other, wishes):
    """The lots of those to whose wish the outcome of other is nearer than that of one, as near, and farther."""
    need_as_many(one, other)
    need_wishes(one, wishes)
    return swayed(outcome_of(one, wishes), outcome_of(other, wishes), wishes)


def all_gain(one, other):
    """Wishes for which the outcome of other is nearer to all than that of one, or None."""
    need_as_many(one, other)
    everybody = all_lots(one.people)[-1]
    # If all wish 1, the corner of all comes out, and if all wish 0, that of nobody.
    if is_less(corner_of(one, everybody), corner_of(other, everybody)):
        return (ONE,) * one.people
    if is_less(corner_of(other, ()), corner_of(one, ())):
        return (ZERO,) * one.people
    return None


def is_all_gain(one, other, thing):
    """Whether a thing are wishes for which the outcome of other is nearer to all than that of one."""
    need_as_many(one, other)
    if not are_numbers(thing, one.people):
        return False
    return len(swayed(outcome_of(one, thing), outcome_of(other, thing), thing)[0]) == one.people


def swayed(one, other, wishes):
    """The lots of those to whose wish the other number is nearer than the one, as near, and farther."""
    nearer = []
    as_near = []
    farther = []
    for person, wish in enumerate(wishes):
        if is_less(apart(other, wish), apart(one, wish)):
            nearer.append(person)
        elif is_less(apart(one, wish), apart(other, wish)):
            farther.append(person)
        else:
            as_near.append(person)
    return (tuple(nearer), tuple(as_near), tuple(farther))


def nearest_rule(rules, wishes):
    """The number of the first rule whose outcome is, added up over all wishes, least far from them."""
    return nearest_of(told_by_all(rules, wishes), wishes)


def best_number(rules, wishes):
    """The outcome of the nearest rule."""
    told = told_by_all(rules, wishes)
    return told[nearest_of(told, wishes)]


def fairest_rule(rules, wishes):
    """The number of the first rule whose outcome is least far from the wish that is farthest."""
    return first_least([farthest(number, wishes) for number in told_by_all(rules, wishes)])


def outcomes(rules, wishes):
    """The outcomes of all rules."""
    return told_by_all(rules, wishes)


def beaten_by(rules, wishes):
    """For each rule the numbers of those that beat it."""
    return beaters(told_by_all(rules, wishes), wishes)


def unbeaten(rules, wishes):
    """The numbers of the rules that none beats."""
    rows = beaters(told_by_all(rules, wishes), wishes)
    return tuple([number for number, row in enumerate(rows) if row == ()])


def duels(rules, wishes):
    """All triples of two numbers of rules, one below other, and the word of which one beats the other one."""
    told = told_by_all(rules, wishes)
    many = len(told)
    return [(one, other, duel(told[one], told[other], wishes)) for one in range(many) for other in range(one + 1, many)]


def told_by_all(rules, wishes):
    """The outcomes of all rules, if these are rules and wishes."""
    if not are_rules(rules):
        raise NoRules()
    need_wishes(rules[0], wishes)
    return [outcome_of(rule, wishes) for rule in rules]


def are_rules(thing):
    """Whether a thing is a list or tuple of 1 to 10 rules of as many people."""
    if not (isinstance(thing, (list, tuple)) and 1 <= len(thing) <= MOST_RULES):
        return False
    if not all([isinstance(rule, Rule) for rule in thing]):
        return False
    return len({rule.people for rule in thing}) == 1


def nearest_of(told, wishes):
    return first_least([all_apart(number, wishes) for number in told])


def all_apart(number, wishes):
    """How far a number is from all wishes, added up."""
    total = ZERO
    for wish in wishes:
        total = plus(total, apart(number, wish))
    return total


def farthest(number, wishes):
    """How far a number is from the wish that is farthest."""
    found = ZERO
    for wish in wishes:
        found = greater(found, apart(number, wish))
    return found


def first_least(fractions):
    """The place of the first one of the least fractions."""
    found = 0
    for at, fraction in enumerate(fractions):
        if is_less(fraction, fractions[found]):
            found = at
    return found


def beaters(told, wishes):
    """For each of these outcomes the numbers of those that beat it."""
    return tuple([tuple([at for at, one in enumerate(told) if duel(one, other, wishes) == "one"]) for other in told])


def duel(one, other, wishes):
    """Which of two outcomes is nearer to the wish of more people: "one", "other" or "none"."""
    won, _, lost = swayed(other, one, wishes)
    if len(won) == len(lost):
        return "none"
    return "one" if len(won) > len(lost) else "other"
