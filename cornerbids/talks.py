"""Talks: moves with any rule, each to the nearest best bid, again and again."""

from cornerbids.amounts import middle
from cornerbids.checks import is_integer, is_schedule, need_bids, need_person, need_wishes
from cornerbids.errors import NoMany, NoOrder
from cornerbids.lines import joint_line, nearest_bids
from cornerbids.rests import gains_alone
from cornerbids.terms import replaced, told_by

MOST_MOVES = 2000


def move(rule, wishes, bids, person):
    """The bids behind the move of a person."""
    need_wishes(rule, wishes)
    need_bids(rule, bids)
    need_person(rule, person)
    return moved(rule, wishes, bids, person)


def moved(rule, wishes, bids, person):
    low, high = nearest_bids(joint_line(rule, bids, (person,)), wishes[person])
    # All between are best bids, so an elder bid that is one is its own nearest.
    return replaced(bids, (person,), middle(low, high, bids[person]))


def stayers(rule, wishes, bids):
    """The lot of those whose move changes nothing."""
    need_wishes(rule, wishes)
    need_bids(rule, bids)
    return tuple([person for person in range(rule.people) if moved(rule, wishes, bids, person) == bids])


def talk(rule, wishes, bids, order, many):
    """How moves in this order, again and again, end, the bids then, and how many moves were made."""
    need_wishes(rule, wishes)
    need_bids(rule, bids)
    if not is_schedule(order, rule.people):
        raise NoOrder()
    if not (is_integer(many) and 0 <= many <= MOST_MOVES):
        raise NoMany()
    seen = {}
    made = 0
    word = None
    while word is None:
        stand = (made % len(order), bids)
        word = ending(rule, wishes, bids, stand in seen, made == many)
        if word is None:
            seen[stand] = True
            bids = moved(rule, wishes, bids, order[stand[0]])
            made += 1
    return (word, bids, made)


def ending(rule, wishes, bids, stood, all_made):
    """The word of how a talk ends here, or None; stood tells whether the bids stood so at this place before."""
    if is_at_rest(rule, wishes, bids):
        return "rest"
    if stood:
        return "round"
    return "on" if all_made else None


def is_at_rest(rule, wishes, bids):
    """Whether the bids are a single rest: mostly somebody gains, and then the others need not be asked."""
    told = told_by(rule.term, bids)
    for person, wish in enumerate(wishes):
        if gains_alone(rule, bids, person, told, wish):
            return False
    return True
