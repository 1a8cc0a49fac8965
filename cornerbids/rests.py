"""Rests: bids made at once that nobody, or no lot of one mind, can better."""

from cornerbids.amounts import ONE, ZERO, is_less
from cornerbids.checks import are_numbers, need_bids, need_wishes
from cornerbids.lines import joint_line, places_for
from cornerbids.outcomes import outcome_of, sides
from cornerbids.terms import replaced, told_by


def is_rest(rule, wishes, thing):
    """Whether a thing are bids that no lot who all want more, or all want less, can move."""
    need_wishes(rule, wishes)
    return are_numbers(thing, rule.people) and lots_that_move(rule, wishes, thing) == ((), ())


def is_single_rest(rule, wishes, thing):
    """Whether a thing are bids that nobody alone can better."""
    need_wishes(rule, wishes)
    return are_numbers(thing, rule.people) and lone_movers(rule, wishes, thing) == ()


def rest(rule, wishes):
    """A rest: those on either side of the outcome bid 0 or 1, and those just at it what brings it about."""
    less, just, more = sides(rule, wishes)
    bids = replaced(replaced(wishes, less, ZERO), more, ONE)
    found = places_for(joint_line(rule, bids, just), outcome_of(rule, wishes))
    return replaced(bids, just, found[0])


def movers(rule, wishes, bids):
    """The lot of those who alone can bring the number nearer to their wish."""
    need_wishes(rule, wishes)
    need_bids(rule, bids)
    return lone_movers(rule, wishes, bids)


def lone_movers(rule, wishes, bids):
    told = told_by(rule.term, bids)
    return tuple([person for person in range(rule.people) if gains_alone(rule, bids, person, told, wishes[person])])


def gains_alone(rule, bids, person, told, wish):
    # The number goes through all on its way, so whoever can move it to the side of the wish gains by a little.
    if is_less(told, wish):
        return raises(rule, bids, (person,), told)
    return is_less(wish, told) and lowers(rule, bids, (person,), told)


def raises(rule, bids, lot, told):
    """Whether the rule tells more than this if those of a lot bid 1."""
    return is_less(told, told_by(rule.term, replaced(bids, lot, ONE)))


def lowers(rule, bids, lot, told):
    """Whether the rule tells less than this if those of a lot bid 0."""
    return is_less(told_by(rule.term, replaced(bids, lot, ZERO)), told)


def moving_lots(rule, wishes, bids):
    """The lots of all who want more, and of all who want less, each if they move the number, otherwise ()."""
    need_wishes(rule, wishes)
    need_bids(rule, bids)
    return lots_that_move(rule, wishes, bids)


def lots_that_move(rule, wishes, bids):
    told = told_by(rule.term, bids)
    more = tuple([person for person in range(rule.people) if is_less(told, wishes[person])])
    less = tuple([person for person in range(rule.people) if is_less(wishes[person], told)])
    return (more if raises(rule, bids, more, told) else (), less if lowers(rule, bids, less, told) else ())
