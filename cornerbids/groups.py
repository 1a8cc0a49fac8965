"""Groups that settle first: what comes of each inner rule is the bid, or the wish, of one person of an outer rule."""

from cornerbids.amounts import ONE, ZERO
from cornerbids.checks import MOST_PEOPLE, are_numbers
from cornerbids.corners import all_lots
from cornerbids.errors import NoWishes, TooMany
from cornerbids.outcomes import outcome_of
from cornerbids.rules import built, renamed_term
from cornerbids.terms import replaced, told_by, with_terms


def composed(outer, inners):
    """The rule of all people of the inner rules, whose numbers are the bids of the outer one."""
    people = need_few(inners)
    # The persons of each group are called by their numbers among all.
    names = parted(inners, tuple(range(people)))
    own = [renamed_term(inner.term, part) for inner, part in zip(inners, names)]
    return built(people, with_terms(outer.term, own))


def need_few(inners):
    """How many people the groups have in all."""
    people = sum([inner.people for inner in inners])
    if people > MOST_PEOPLE:
        raise TooMany(MOST_PEOPLE)
    return people


def parted(inners, row):
    """The parts of a row that belong to the groups."""
    found = []
    start = 0
    for inner in inners:
        found.append(row[start:start + inner.people])
        start += inner.people
    return found


def groups_first(outer, inners, wishes):
    """The outcome of the outer rule if the outcome of each group is the wish of its person."""
    people = need_few(inners)
    if not are_numbers(wishes, people):
        raise NoWishes()
    numbers = [outcome_of(inner, part) for inner, part in zip(inners, parted(inners, wishes))]
    return outcome_of(outer, tuple(numbers))


def groups_parting(outer, inners):
    """The lot of the fewest such that settling first matters if they wish 1, all others 0, or None."""
    people = need_few(inners)
    for lot in all_lots(people):
        row = replaced((ZERO,) * people, lot, ONE)
        # At such wishes an outcome is what the rule tells of them, of groups as of the composed rule.
        numbers = tuple([told_by(inner.term, part) for inner, part in zip(inners, parted(inners, row))])
        if outcome_of(outer, numbers) != told_by(outer.term, numbers):
            return lot
    return None
