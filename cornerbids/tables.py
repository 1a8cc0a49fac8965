"""Corner tables: a number for each lot, such that a lot with one person more never has less."""

from cornerbids.amounts import is_less, minus
from cornerbids.checks import is_lot, is_number, is_person, need_people
from cornerbids.corners import all_lots
from cornerbids.errors import NoTable
from cornerbids.rules import built


def is_table(people, thing):
    """Whether a thing is a table for so many people."""
    need_people(people)
    return is_right_table(people, thing)


def is_right_table(people, thing):
    if not isinstance(thing, dict):
        return False
    lots = all_lots(people)
    if len(thing) != len(lots) or not all([lot in thing and is_number(thing[lot]) for lot in lots]):
        return False
    return not any([falls(people, thing, person) for person in range(people)])


def falls(people, table, person):
    """Whether some lot has less with this person than without."""
    return any([is_less(table[joined(lot, person)], table[lot]) for lot in lots_without(people, person)])


def lots_without(people, person):
    return [lot for lot in all_lots(people) if person not in lot]


def joined(lot, person):
    """The lot if this person comes to it."""
    return tuple(sorted((*lot, person)))


def need_table(people, table):
    need_people(people)
    if not is_right_table(people, table):
        raise NoTable()


def rule_of(people, table):
    """A rule without a mean whose corners are the table."""
    need_table(people, table)
    return rule_with(people, table)


def rule_with(people, table):
    return built(people, term_from(people, table, (), 0))


def term_from(people, table, told, person):
    """The term of what this person and those behind bid; those of the lot told, ahead of them, are held to bid 1.

    In the end the greatest, over all lots, of the least of the lot's number and the bids in it, comes of it.
    """
    if person == people:
        return ("fixed", table[told])
    without = term_from(people, table, told, person + 1)
    within = term_from(people, table, (*told, person), person + 1)
    if without == within:
        return without
    return ("greatest", (without, ("least", (("bid", person), within))))


def weights_of(people, table):
    """The fractions of the persons, and the last one, of which each lot's number is the sum, or None."""
    need_table(people, table)
    if first_bar_to_weights(people, table) is not None:
        return None
    return (tuple([rise(table, (), person) for person in range(people)]), table[()])


def rise(table, lot, person):
    """By how much a lot's number rises if this person comes to it."""
    return minus(table[joined(lot, person)], table[lot])


def bar_to_weights(people, table):
    """A person and two lots whose numbers rise by unlike fractions if the person comes to them, or None."""
    need_table(people, table)
    return first_bar_to_weights(people, table)


def first_bar_to_weights(people, table):
    for person in range(people):
        for lot in lots_without(people, person):
            # If any two rises are unlike, one of them is unlike that of nobody's lot.
            if rise(table, lot, person) != rise(table, (), person):
                return (person, (), lot)
    return None


def is_bar_to_weights(people, table, thing):
    """Whether a thing is a person and two lots whose numbers rise by unlike fractions if the person comes to them."""
    need_table(people, table)
    if not (isinstance(thing, tuple) and len(thing) == 3 and is_person(thing[0], people)):
        return False
    person, one, other = thing
    if not all([is_lot(lot, people) and person not in lot for lot in (one, other)]):
        return False
    return rise(table, one, person) != rise(table, other, person)


def by_counts(people, table):
    """The number of all lots of so many people, for each count from 0 on, or None."""
    need_table(people, table)
    if first_bar_to_counts(people, table) is not None:
        return None
    return tuple([table[first_lot(many)] for many in range(people + 1)])


def first_lot(many):
    """The least lot of so many people."""
    return tuple(range(many))


def bar_to_counts(people, table):
    """Two lots of as many people with unlike numbers, or None."""
    need_table(people, table)
    return first_bar_to_counts(people, table)


def first_bar_to_counts(people, table):
    for lot in all_lots(people):
        if table[lot] != table[first_lot(len(lot))]:
            return (first_lot(len(lot)), lot)
    return None


def is_bar_to_counts(people, table, thing):
    """Whether a thing is a pair of lots of as many people with unlike numbers."""
    need_table(people, table)
    if not (isinstance(thing, tuple) and len(thing) == 2 and all([is_lot(lot, people) for lot in thing])):
        return False
    one, other = thing
    return len(one) == len(other) and table[one] != table[other]


def idle(people, table):
    """The lot of those who never change a lot's number by coming to it."""
    need_table(people, table)
    return tuple([person for person in range(people) if is_idle(people, table, person)])


def is_idle(people, table, person):
    return all([table[joined(lot, person)] == table[lot] for lot in lots_without(people, person)])
