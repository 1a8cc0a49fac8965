"""The outcome: the one number that is held from both sides."""

from cornerbids.amounts import ONE, ZERO, is_less
from cornerbids.checks import is_number, need_bids, need_lot, need_wishes
from cornerbids.corners import corner_of, lots_among
from cornerbids.terms import Numbers, mixed, replaced, worked


def outcome(rule, wishes):
    """The number that comes out if the persons wish these."""
    need_wishes(rule, wishes)
    return outcome_of(rule, wishes)


def outcome_of(rule, wishes):
    return settled_between(rule, wishes, (ZERO,) * rule.people, (ONE,) * rule.people)


def settled_between(rule, wishes, lows, highs):
    """The number that comes out if all bid from their low to their high."""
    return settled(rule.term, wishes, lows, highs, tuple(range(rule.people)), Numbers())


def is_outcome(rule, wishes, thing):
    """Whether a thing is the number that comes out."""
    need_wishes(rule, wishes)
    return is_number(thing) and thing == outcome_of(rule, wishes)


def outcome_behind(rule, wishes, bids, later):
    """The number that comes out if those of later are still to bid, the others having bid."""
    need_wishes(rule, wishes)
    need_bids(rule, bids)
    need_lot(rule, later)
    return settled(rule.term, wishes, replaced(bids, later, ZERO), replaced(bids, later, ONE), later, Numbers())


def settled(term, wishes, lows, highs, later, ways):
    """What comes out if those of later are still to bid, from their low to their high, the others bidding their low.

    The lows and highs are such as the ways put together. It is the greatest, over all lots of later, of the least of
    what the term tells if they bid high, and the wishes in the lot; the lots of those who wish at least so much are
    enough.
    """
    found = worked(term, lows, ways)
    for person in later:
        eager = [other for other in later if not is_less(wishes[other], wishes[person])]
        told = worked(term, mixed(lows, highs, eager), ways)
        found = ways.greater(found, ways.lesser(ways.fixed(wishes[person]), told))
    return found


def sides(rule, wishes):
    """The lots of those who wish less than the outcome, just it, and more."""
    need_wishes(rule, wishes)
    told = outcome_of(rule, wishes)
    less = tuple([person for person in range(rule.people) if is_less(wishes[person], told)])
    just = tuple([person for person in range(rule.people) if wishes[person] == told])
    more = tuple([person for person in range(rule.people) if is_less(told, wishes[person])])
    return (less, just, more)


def holding(rule, wishes):
    """The lot of the fewest who wish at least the outcome and, bidding 1, hold it."""
    less, just, more = sides(rule, wishes)
    told = outcome_of(rule, wishes)
    willing = sorted(just + more)
    holders = [lot for lot in lots_among(willing) if not is_less(corner_of(rule, lot), told)]
    return holders[0]


def pressing(rule, wishes):
    """The lot of the fewest who wish at most the outcome and without whom the others do not get above it."""
    less, just, more = sides(rule, wishes)
    told = outcome_of(rule, wishes)
    willing = sorted(less + just)
    pressers = [lot for lot in lots_among(willing) if not is_less(told, corner_of(rule, all_but(rule, lot)))]
    return pressers[0]


def all_but(rule, lot):
    return [person for person in range(rule.people) if person not in lot]
