"""Rules compared: which play alike, where they part, and what tells the same without a mean."""

from cornerbids.amounts import is_less
from cornerbids.corners import all_lots, corner_of, corners
from cornerbids.errors import OtherPeople
from cornerbids.tables import rule_with


def need_as_many(one, other):
    if one.people != other.people:
        raise OtherPeople()


def alike(one, other):
    """Whether two rules have one outcome for all wishes."""
    need_as_many(one, other)
    return parting_lot(one, other) is None


def parting(one, other):
    """The lot of the fewest people at which the corners of two rules are unlike, or None."""
    need_as_many(one, other)
    return parting_lot(one, other)


def parting_lot(one, other):
    for lot in all_lots(one.people):
        if corner_of(one, lot) != corner_of(other, lot):
            return lot
    return None


def never_less(one, other):
    """Whether the outcome of one is at least that of other for all wishes."""
    need_as_many(one, other)
    # Outcomes hang on corners alone, and never fall as these rise; at wishes of 0 and 1 they are the corners.
    return not any([is_less(corner_of(one, lot), corner_of(other, lot)) for lot in all_lots(one.people)])


def cousin(rule):
    """A rule without a mean that tells for all bids what the outcome of this one is if these are the wishes."""
    return rule_with(rule.people, corners(rule))
