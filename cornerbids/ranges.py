"""Wishes known in part: which outcomes can be, and which wishes can stand behind an outcome."""

from cornerbids.amounts import ONE, ZERO, is_less, middle
from cornerbids.checks import need_number, need_person, need_stretches
from cornerbids.corners import corner_of
from cornerbids.outcomes import outcome_of


def range_of(rule, known):
    """The least and the greatest outcome that can be if each wish lies within its stretch."""
    need_stretches(rule, known)
    lows = tuple([low for low, _ in known])
    highs = tuple([high for _, high in known])
    return (outcome_of(rule, lows), outcome_of(rule, highs))


def wishes_with(rule, known, number):
    """Wishes within their stretches with this outcome, or None."""
    need_stretches(rule, known)
    need_number(number)
    # Only on which side of the number a wish is matters: who can be just at it may as well be there.
    wishes = tuple([middle(low, high, number) for low, high in known])
    return wishes if outcome_of(rule, wishes) == number else None


def wish_bounds(rule, person, number):
    """The least and the greatest wish of a person with which the number can be the outcome, or None."""
    need_person(rule, person)
    need_number(number)
    everybody = tuple(range(rule.people))
    others = everybody[:person] + everybody[person + 1:]
    if is_less(number, corner_of(rule, ())) or is_less(corner_of(rule, everybody), number):
        return None
    # A person who alone holds no more than the number may wish up to 1, one without whom all others hold it down to 0.
    low = number if is_less(corner_of(rule, others), number) else ZERO
    high = number if is_less(number, corner_of(rule, (person,))) else ONE
    return (low, high)
