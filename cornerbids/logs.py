"""Logs: the numbers of several rules for one row of wishes, and which wishes can stand behind them."""

from cornerbids.amounts import ONE, ZERO, ascending, is_less
from cornerbids.checks import is_number, need_person, need_wishes
from cornerbids.corners import all_lots, corner_of
from cornerbids.errors import NoLog, TooMany
from cornerbids.outcomes import outcome_of
from cornerbids.rules import Rule

MOST_RULES = 4
MOST_ROWS = 20000


def fits(log, wishes):
    """Whether the outcome of each rule for these wishes is its number."""
    need_log(log)
    need_wishes(log[0][0], wishes)
    return all([outcome_of(rule, wishes) == number for rule, number in log])


def fitting(log):
    """Wishes that fit, or None."""
    need_log(log)
    chain = some_chain(counted_chains(cuts_of(log)))
    if chain is None:
        return None
    numbers = numbers_in(log)
    stands = [len([lot for lot in chain if person in lot]) for person in range(people_of(log))]
    return tuple([wish_at(numbers, place) for place in stands])


def places(log, wishes):
    """The places of all wishes."""
    need_log(log)
    need_wishes(log[0][0], wishes)
    numbers = numbers_in(log)
    return tuple([place_of(numbers, wish) for wish in wishes])


def may_stand(log, person):
    """The places that the wish of a person has in some wishes that fit."""
    need_log(log)
    need_person(log[0][0], person)
    cuts = cuts_of(log)
    return [place for place in range(len(cuts) + 1) if can_stand(cuts, person, place)]


def many_places(log):
    """How many unlike tuples of places there are of wishes that fit."""
    need_log(log)
    need_few_places(log)
    return sum(counted_chains(cuts_of(log))[-1].values())


def need_log(thing):
    if not is_log(thing):
        raise NoLog()


def is_log(thing):
    if not (isinstance(thing, tuple) and 1 <= len(thing) <= MOST_RULES and all([is_entry(pair) for pair in thing])):
        return False
    return len({rule.people for rule, _ in thing}) == 1


def is_entry(thing):
    return isinstance(thing, tuple) and len(thing) == 2 and isinstance(thing[0], Rule) and is_number(thing[1])


def people_of(log):
    return log[0][0].people


def numbers_in(log):
    """The unlike numbers of a log, ascending."""
    return ascending([number for _, number in log])


def need_few_places(log):
    numbers = numbers_in(log)
    # No wish is below 0 or above 1.
    choices = 2 * len(numbers) + 1 - len([number for number in numbers if number in (ZERO, ONE)])
    rows = 1
    for _ in range(people_of(log)):
        rows *= choices
    if rows > MOST_ROWS:
        raise TooMany(MOST_ROWS)


def place_of(numbers, wish):
    below = len([number for number in numbers if is_less(number, wish)])
    return 2 * below + 1 if wish in numbers else 2 * below


def wish_at(numbers, place):
    """A wish that fits where one of this place does: who wishes more than a number may as well wish just that."""
    return numbers[(place - 1) // 2] if place > 0 else ZERO


# A cut is where one place ends and the next one begins. Who stands above a cut is a lot; wishes fit if these lots are
# all right ones, and each is within the one of the cut below. A person's place is how many cuts the person is above.

def cuts_of(log):
    """For each cut from the lowest one on the lots that may stand above it."""
    lots = all_lots(people_of(log))
    found = []
    for number in numbers_in(log):
        rules = [rule for rule, told in log if told == number]
        at_least = [lot for lot in lots if all([not is_less(corner_of(rule, lot), number) for rule in rules])]
        above = [lot for lot in lots if all([not is_less(number, corner_of(rule, lot)) for rule in rules])]
        found.append([lots[-1]] if number == ZERO else at_least)
        found.append([()] if number == ONE else above)
    return found


def counted_chains(cuts):
    """For each cut the dict from the lots that can stand above it to how many chains of lots lead to each."""
    found = []
    for lots in cuts:
        if found:
            counts = {lot: chains_to(lot, found[-1]) for lot in lots}
        else:
            counts = {lot: 1 for lot in lots}
        found.append({lot: counts[lot] for lot in lots if counts[lot] > 0})
    return found


def chains_to(lot, counts):
    """How many chains lead to a lot, counts being those that lead to the lots of the cut below."""
    return sum([counts[wider] for wider in counts if is_within(lot, wider)])


def is_within(lot, wider):
    return all([person in wider for person in lot])


def some_chain(counted):
    """A lot for each cut, from the highest one down, that all fit together, or None."""
    found = []
    for counts in reversed(counted):
        lots = [lot for lot in counts if not found or is_within(found[-1], lot)]
        # Each lot that is counted can be reached from below, so only the highest cut may have none.
        if not lots:
            return None
        found.append(lots[0])
    return found


def can_stand(cuts, person, place):
    """Whether wishes can fit in which the wish of a person has this place."""
    own = [[lot for lot in lots if (person in lot) == (at < place)] for at, lots in enumerate(cuts)]
    return len(counted_chains(own)[-1]) > 0
