"""Own stretches: what comes out if each person may bid from a low to a high number only."""

from cornerbids.amounts import ONE, ZERO, greater, is_less, lesser, minus, plus
from cornerbids.bends import height
from cornerbids.checks import are_numbers, is_people, need_number, need_stretches, need_wishes
from cornerbids.errors import NoWishes
from cornerbids.lines import line_between, places_for
from cornerbids.outcomes import settled_between
from cornerbids.terms import mixed, told_by


def around(wishes, far):
    """The stretches of all bids no farther from the wishes than a number."""
    if not (isinstance(wishes, tuple) and is_people(len(wishes)) and are_numbers(wishes, len(wishes))):
        raise NoWishes()
    need_number(far)
    return tuple([(greater(ZERO, minus(wish, far)), lesser(ONE, plus(wish, far))) for wish in wishes])


def outcome_within(rule, wishes, stretches):
    """The number that comes out if each person bids within the own stretch."""
    need_wishes(rule, wishes)
    need_stretches(rule, stretches)
    return outcome_between(rule, wishes, stretches)


def outcome_between(rule, wishes, stretches):
    return settled_between(rule, wishes, lows_of(stretches), highs_of(stretches))


def lows_of(stretches):
    return tuple([low for low, _ in stretches])


def highs_of(stretches):
    return tuple([high for _, high in stretches])


def rest_within(rule, wishes, stretches):
    """Bids within the stretches that bring the outcome about, those who wish more or less bidding their utmost."""
    need_wishes(rule, wishes)
    need_stretches(rule, stretches)
    told = outcome_between(rule, wishes, stretches)
    highs = highs_of(stretches)
    least = mixed(lows_of(stretches), highs, [at for at, wish in enumerate(wishes) if is_less(told, wish)])
    most = mixed(least, highs, [at for at, wish in enumerate(wishes) if wish == told])
    # Those who wish just the outcome go from low to high at once, until it comes about.
    place = places_for(line_between(rule, least, most), told)[0]
    return tuple([height((ZERO, low), (ONE, high), place) for low, high in zip(least, most)])


def is_rest_within(rule, wishes, stretches, thing):
    """Whether a thing are bids within the stretches that none who all want more, or all want less, can move there."""
    need_wishes(rule, wishes)
    need_stretches(rule, stretches)
    if not (are_numbers(thing, rule.people) and are_within(thing, stretches)):
        return False
    told = told_by(rule.term, thing)
    more = mixed(thing, highs_of(stretches), [at for at, wish in enumerate(wishes) if is_less(told, wish)])
    less = mixed(thing, lows_of(stretches), [at for at, wish in enumerate(wishes) if is_less(wish, told)])
    return told_by(rule.term, more) == told and told_by(rule.term, less) == told


def are_within(bids, stretches):
    return all([not is_less(bid, low) and not is_less(high, bid) for bid, (low, high) in zip(bids, stretches)])
