"""How far play can draw a mean from what it tells of the wishes."""

from cornerbids.amounts import ONE, ZERO, apart, is_less, minus, times
from cornerbids.checks import are_numbers
from cornerbids.corners import all_lots, corner_of
from cornerbids.errors import NotPlain
from cornerbids.outcomes import outcome_of
from cornerbids.plain import is_plain
from cornerbids.terms import replaced, told_by


def need_mean(rule):
    # The corner of nobody is the last fraction of the weights.
    if not is_plain(rule) or corner_of(rule, ()) != ZERO:
        raise NotPlain()


def most_drawn(rule):
    """The greatest, over all wishes, of how far what the rule tells of them is from the outcome."""
    need_mean(rule)
    return greatest_draw(rule)


def drawing(rule):
    """Wishes of which what the rule tells is farthest from the outcome."""
    need_mean(rule)
    lot = widest_lot(rule)
    # If these wish just what their bids 1 come to, the others 0, it comes out; as bids these wishes come to less.
    return replaced((ZERO,) * rule.people, lot, corner_of(rule, lot))


def is_drawing(rule, thing):
    """Whether a thing are wishes of which what the rule tells is farthest from the outcome."""
    need_mean(rule)
    if not are_numbers(thing, rule.people):
        return False
    return apart(told_by(rule.term, thing), outcome_of(rule, thing)) == greatest_draw(rule)


def greatest_draw(rule):
    return draw(corner_of(rule, widest_lot(rule)))


def draw(part):
    """How far those whose fractions come to this part can draw: it times what is left."""
    return times(part, minus(ONE, part))


def widest_lot(rule):
    """The first lot that can draw farthest."""
    found = ()
    for lot in all_lots(rule.people):
        if is_less(draw(corner_of(rule, found)), draw(corner_of(rule, lot))):
            found = lot
    return found
