"""The bent line of one person's bid: what comes of it as the bid goes from 0 to 1."""

from cornerbids.amounts import ONE, ZERO, is_less, middle
from cornerbids.bends import Lines, flat, height, heights, is_line
from cornerbids.checks import is_lot, need_bids, need_number, need_person, need_wishes
from cornerbids.errors import NoBent, NoLot
from cornerbids.outcomes import settled
from cornerbids.terms import replaced, worked


def line(rule, bids, person):
    """What the rule tells as the bid of this person goes from 0 to 1, the others bidding these."""
    need_bids(rule, bids)
    need_person(rule, person)
    return joint_line(rule, bids, (person,))


def joint_line(rule, bids, movers):
    """What the rule tells as the movers' one bid goes from 0 to 1, the others bidding these."""
    return line_between(rule, replaced(bids, movers, ZERO), replaced(bids, movers, ONE))


def line_between(rule, lows, highs):
    """What the rule tells as all go straight from their low bid to their high one, at once."""
    return worked(rule.term, ways_between(lows, highs), Lines())


def ways_between(lows, highs):
    """The line of each person's own bid."""
    return tuple([((ZERO, low), (ONE, high)) for low, high in zip(lows, highs)])


def told_at(bent, number):
    """What a line tells at a number."""
    need_line(bent)
    need_number(number)
    return heights(bent, [number])[0]


def bids_for(bent, number):
    """The least and the greatest place at which a line tells a number, or None."""
    need_line(bent)
    need_number(number)
    return places_for(bent, number)


def need_line(thing):
    if not is_line(thing):
        raise NoBent()


def places_for(bent, number):
    if is_less(number, bent[0][1]) or is_less(bent[-1][1], number):
        return None
    return (first_place(bent, number), last_place(bent, number))


def first_place(bent, number):
    """The least place at which a line, which goes through this number, tells it."""
    at = 0
    while is_less(bent[at][1], number):
        at += 1
    return bent[at][0] if bent[at][1] == number else place_between(bent[at - 1], bent[at], number)


def last_place(bent, number):
    """The greatest place at which a line, which goes through this number, tells it."""
    at = len(bent) - 1
    while is_less(number, bent[at][1]):
        at -= 1
    return bent[at][0] if bent[at][1] == number else place_between(bent[at], bent[at + 1], number)


def place_between(one, other, number):
    """The place at which the way that rises from one pair to the other is at this number."""
    return height((one[1], one[0]), (other[1], other[0]), number)


def nearest_bids(bent, wish):
    """The least and the greatest place at which a line is as near to a wish as anywhere."""
    return places_for(bent, middle(bent[0][1], bent[-1][1], wish))


def foreseen_line(rule, wishes, bids, person, later):
    """What comes out as the bid of this person goes from 0 to 1, those of later being still to bid."""
    need_wishes(rule, wishes)
    need_bids(rule, bids)
    need_person(rule, person)
    if not is_lot(later, rule.people) or person in later:
        raise NoLot()
    own = ways_between(replaced(bids, (person,), ZERO), replaced(bids, (person,), ONE))
    lows = replaced(own, later, flat(ZERO))
    highs = replaced(own, later, flat(ONE))
    return settled(rule.term, wishes, lows, highs, later, Lines())
