"""Corners: what a rule tells of bids 0 and 1 alone."""

from itertools import combinations

from cornerbids.amounts import ONE, ZERO
from cornerbids.checks import need_lot
from cornerbids.terms import replaced, told_by


def corner(rule, lot):
    """The number of the rule if those of the lot bid 1, all others 0."""
    need_lot(rule, lot)
    return corner_of(rule, lot)


def corners(rule):
    """The dict from all lots to their corners."""
    return {lot: corner_of(rule, lot) for lot in all_lots(rule.people)}


def corner_of(rule, lot):
    return told_by(rule.term, replaced((ZERO,) * rule.people, lot, ONE))


def all_lots(people):
    """All lots of so many people, by how many they are, then as tuples."""
    return lots_among(list(range(people)))


def lots_among(persons):
    """All lots of ascending persons, by how many they are, then as tuples."""
    found = []
    for many in range(len(persons) + 1):
        found.extend(list(combinations(persons, many)))
    return found
