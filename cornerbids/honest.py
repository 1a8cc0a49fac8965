"""Honest or a lie: whether somebody does best by bidding just the wish."""

from cornerbids.amounts import apart, is_less, middle
from cornerbids.bends import heights
from cornerbids.checks import are_numbers, need_bids, need_number, need_person
from cornerbids.lines import joint_line, nearest_bids
from cornerbids.terms import replaced, told_by


def best_for(rule, bids, person, wish):
    """The least and the greatest bid of a person that brings the number as near to a wish as any."""
    need_bids(rule, bids)
    need_person(rule, person)
    need_number(wish)
    return nearest_bids(joint_line(rule, bids, (person,)), wish)


def honest_at(rule, bids, person):
    """Whether for each wish of a person the wish itself is a best bid, the others bidding these."""
    need_bids(rule, bids)
    need_person(rule, person)
    return first_lie(rule, bids, person) is None


def lie(rule, bids, person):
    """A wish of a person, and a bid that brings the number nearer to it than the wish as a bid does, or None."""
    need_bids(rule, bids)
    need_person(rule, person)
    return first_lie(rule, bids, person)


def first_lie(rule, bids, person):
    bent = joint_line(rule, bids, (person,))
    low = bent[0][1]
    high = bent[-1][1]
    # What the wish tells as a bid, and the nearest that can be told, both go straight between these wishes.
    for wish in [low, high] + [place for place, _ in bent]:
        if heights(bent, [wish])[0] != middle(low, high, wish):
            return (wish, nearest_bids(bent, wish)[0])
    return None


def is_lie(rule, bids, person, thing):
    """Whether a thing is a wish and a bid that brings the number nearer to it than the wish as a bid does."""
    need_bids(rule, bids)
    need_person(rule, person)
    if not are_numbers(thing, 2):
        return False
    wish, bid = thing
    return is_less(miss(rule, bids, person, bid, wish), miss(rule, bids, person, wish, wish))


def miss(rule, bids, person, bid, wish):
    """How far the number is from a wish if the person bids this."""
    return apart(told_by(rule.term, replaced(bids, (person,), bid)), wish)
