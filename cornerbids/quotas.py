"""Weights or a trade: whether loads and a quota tell which lots hold a number."""

from cornerbids.checks import is_integer, is_lot, need_number
from cornerbids.corners import all_lots
from cornerbids.holders import holding_lots


def scale(rule, number):
    """Loads and a quota that just the lots that hold a number come to, or None."""
    need_number(number)
    held = holding_lots(rule, number)
    if first_trade(rule.people, held) is not None:
        return None
    return found_scale(rule.people, held)


def is_scale(rule, number, thing):
    """Whether a thing are loads and a quota that just the lots that hold a number come to."""
    need_number(number)
    if not (isinstance(thing, tuple) and len(thing) == 2 and are_loads(thing[0], rule.people) and is_integer(thing[1])):
        return False
    loads, quota = thing
    return misjudged(loads, quota, holding_lots(rule, number)) == []


def trade(rule, number):
    """Lots that hold a number, and as many that do not, with each person as often in these as in those, or None."""
    need_number(number)
    return first_trade(rule.people, holding_lots(rule, number))


def is_trade(rule, number, thing):
    """Whether a thing are lots that hold a number, and as many that do not, with the same people in all."""
    need_number(number)
    if not (isinstance(thing, tuple) and len(thing) == 2 and all([are_lots(lots, rule.people) for lots in thing])):
        return False
    held, lost = thing
    if len(held) != len(lost) or all_seats(held) != all_seats(lost):
        return False
    holders = holding_lots(rule, number)
    return all([lot in holders for lot in held]) and not any([lot in holders for lot in lost])


def are_loads(thing, people):
    """Whether a thing is a tuple with an integer from 0 on for each person."""
    return isinstance(thing, tuple) and len(thing) == people and all([is_integer(load) and load >= 0 for load in thing])


def are_lots(thing, people):
    """Whether a thing is a tuple of lots, one or more."""
    return isinstance(thing, tuple) and len(thing) > 0 and all([is_lot(lot, people) for lot in thing])


def all_seats(lots):
    """The persons of all lots, each as often as in them."""
    return sorted([person for lot in lots for person in lot])


def first_trade(people, held):
    """A trade of two lots each, or None: of six people or fewer there is one of these if there is any."""
    lost = [lot for lot in all_lots(people) if lot not in held]
    pairs = {}
    for one, other in pairs_of(lost):
        pairs[tuple(all_seats((one, other)))] = (one, other)
    for one, other in pairs_of(held):
        seats = tuple(all_seats((one, other)))
        if seats in pairs:
            return ((one, other), pairs[seats])
    return None


def pairs_of(lots):
    """All pairs of lots, also of alike ones, in one order each."""
    return [(one, other) for at, one in enumerate(lots) for other in lots[at:]]


def found_scale(people, held):
    """A scale of these lots, of which there is one.

    Each lot that is misjudged moves loads and quota a little to its side. It is known of this way (the perceptron) that
    it ends wherever there is a scale.
    """
    loads = [0] * people
    quota = 0
    wrong = misjudged(loads, quota, held)
    while wrong:
        for lot in wrong:
            step = 1 if lot in held else -1
            quota -= step
            for person in lot:
                loads[person] += step
        wrong = misjudged(loads, quota, held)
    # A lot with one person more never loses the number, so a load below 0 may as well be 0.
    return (tuple([max(load, 0) for load in loads]), quota)


def misjudged(loads, quota, held):
    """The lots of which loads and quota do not tell rightly whether they are among these."""
    return [lot for lot in all_lots(len(loads)) if (sum([loads[person] for person in lot]) >= quota) != (lot in held)]
